/- Ve, Vf, FlR -/
import Derived.Test.YtmjfnpmnhehnkaaXac
namespace Go.Proofs.Ytmjfnpmnhehnkaa
open Go.RowKit
def z4 : List UInt8 := [0, 0, 0, 0]
def z16 : List UInt8 := [0, 0, 0, 0, 0, 0, 0, 0, 0, 0, 0, 0, 0, 0, 0, 0]
def zeroVt : Vt := ⟨z4, 0, z16, nilB, 0, 0, z16, false, false⟩
theorem zeroVt_ok : zeroVt.Ok := ⟨rfl, by decide, by decide, rfl, by decide, by decide, by decide, by decide, rfl⟩
def zeroVc : Vc := zeroVt.ct
def goneVt (id : List UInt8) (g : Int) (wi : Bool) : Vt := ⟨id, g, z16, nilB, 0, 0, z16, true, wi⟩
theorem goneVt_ok {id : List UInt8} {g : Int} {wi : Bool} (h : id.length = 4) (g0 : 0 ≤ g) (g1 : g < 18446744073709551616) : (goneVt id g wi).Ok := ⟨h, g0, g1, rfl, (by show (-9223372036854775808 : Int) ≤ 0; decide), (by show (0 : Int) ≤ 9223372036854775807; decide), (by show (-9223372036854775808 : Int) ≤ 0; decide), (by show (0 : Int) ≤ 9223372036854775807; decide), rfl⟩
theorem goneVt_in {id : List UInt8} {g : Int} {wi : Bool} (h : id.length = 4) (g0 : 0 ≤ g) (g1 : g < 18446744073709551616) (w : World) : VI w (goneVt id g wi) := ⟨goneVt_ok h g0 g1, nilB_in _ _⟩
def goneC (id : List UInt8) (g : Int) (wi : Bool) : Vc := (goneVt id g wi).ct
theorem built_zero : Try.prog.built 36 [] = some zeroVt.C.toArray := by kernel_rfl
theorem built_gone (id : List UInt8) (g : Int) (wi : Bool) (h : id.length = 4) : Try.prog.built 36 [(0, digV id), (1, .int .u64 g), (7, .bool true), (8, .bool wi)] = some (goneVt id g wi).C.toArray := by
 obtain ⟨a, b, c, d, rfl⟩ := len4 h
 kernel_rfl
theorem built_z16 : Try.prog.built 34 [] = some (Lib.byteCells z16).toArray := by kernel_rfl
def Vc.right (c : Vc) : Bool := decide (1 ≤ c.gen ∧ c.gen ≤ 1099511627776) && (if c.gone = true then decide (c = goneC c.id c.gen c.wiped) else (!c.wiped && decide (1 ≤ c.lim ∧ c.lim ≤ 32) && decide (0 ≤ c.used) && decide (c.used < c.lim) && decide (c.sec.length ≤ 64)))
theorem Vt.ct_id (x : Vt) : x.ct.id = x.id := rfl
set_option maxHeartbeats 4000000 in
set_option maxRecDepth 100000 in
theorem vright_any (a : Vt) (w : World) (ha : VI w a) : Calls Try.prog 99 #[a.V] w fun e w' => e = .returned (.bool a.ct.right) ∧ Ex w w' := by
 obtain ⟨z, hz⟩ : ∃ z, z = a.ct.right := ⟨_, rfl⟩
 rw [← hz]
 have HZ := Hi hz
 clear hz
 have HID := Hi ha.ok.idN
 have CS := Hi (fun (wi : Bool) w1 (k : Ex w w1) => vsame_any a (goneVt a.id a.gen wi) w1 (ha.ext k) (goneVt_in ha.ok.idN ha.ok.gen0 ha.ok.gen1 _))
 have CP := Hi (fun w1 => secret_any a.sec w1)
 have g0 := ha.ok.gen0
 have OK := Hi ha.ok
 obtain ⟨cs, hcs⟩ : ∃ cs, cs = a.C.toArray := ⟨_, rfl⟩
 have A0 : Hid (VB (w.alloc (.cells cs 36)) w.heap.size a) := Hi ⟨ha.ok, by rw [hcs]; exact Bk.new rfl _ _⟩
 have BW : Hid (Ex w (w.alloc (.cells cs 36))) := Hi (Ex.alloc w _)
 have AI := Hi (ha.ext BW.out)
 rw [show (Calls Try.prog 99 #[a.V] w) = (Calls Try.prog 99 #[.agg cs] w) by rw [hcs]; rfl]
 clear hcs ha
 by_cases h1 : 1 ≤ a.gen
 case neg =>
  obtain ⟨a4, a21, a22, a23, a40, a41⟩ := A0.out.cells
  unfold Pt.V at a21
  go_enter Try.func99, Try.ntmps99
  go_wp2_with fail
  go_ret
  have e : z = false := by
   rw [HZ.out]; unfold Vc.right
   have h : ¬ (1 ≤ a.ct.gen ∧ a.ct.gen ≤ 1099511627776) := by show ¬ (1 ≤ a.gen ∧ a.gen ≤ 1099511627776); omega
   rw [decide_eq_false h]; rfl
  exact ⟨congrArg (fun b => Ending.returned (.bool b)) e.symm, BW.out⟩
 by_cases h2 : a.gen ≤ 1099511627776
 case neg =>
  obtain ⟨a4, a21, a22, a23, a40, a41⟩ := A0.out.cells
  unfold Pt.V at a21
  go_enter Try.func99, Try.ntmps99
  go_wp2_with fail
  go_ret
  have e : z = false := by
   rw [HZ.out]; unfold Vc.right
   have h : ¬ (1 ≤ a.ct.gen ∧ a.ct.gen ≤ 1099511627776) := by show ¬ (1 ≤ a.gen ∧ a.gen ≤ 1099511627776); omega
   rw [decide_eq_false h]; rfl
  exact ⟨congrArg (fun b => Ending.returned (.bool b)) e.symm, BW.out⟩
 have HG : Hid (a.ct.right = if a.ct.gone = true then decide (a.ct = goneC a.ct.id a.ct.gen a.ct.wiped) else (!a.ct.wiped && decide (1 ≤ a.ct.lim ∧ a.ct.lim ≤ 32) && decide (0 ≤ a.ct.used) && decide (a.ct.used < a.ct.lim) && decide (a.ct.sec.length ≤ 64))) := Hi (by
  unfold Vc.right
  rw [decide_eq_true (show 1 ≤ a.ct.gen ∧ a.ct.gen ≤ 1099511627776 from ⟨h1, h2⟩), Bool.true_and])
 rw [HG.out] at HZ
 clear HG
 cases hg : a.gone
 case false =>
  rw [show a.ct.gone = false from hg] at HZ
  simp only [Bool.false_eq_true, if_false] at HZ
  cases hw : a.wiped
  case true =>
   obtain ⟨a4, a21, a22, a23, a40, a41⟩ := A0.out.cells
   unfold Pt.V at a21
   rw [hg] at a40
   rw [hw] at a41
   go_enter Try.func99, Try.ntmps99
   go_wp2_with fail
   go_ret
   have e : z = false := by
    rw [HZ.out]; rw [show a.ct.wiped = true from hw]; rfl
   exact ⟨congrArg (fun b => Ending.returned (.bool b)) e.symm, BW.out⟩
  rw [show a.ct.wiped = false from hw] at HZ
  simp only [Bool.not_false, Bool.true_and] at HZ
  have CL := Hi (fun w1 => limit_any a.lim w1)
  by_cases hl : 1 ≤ a.lim ∧ a.lim ≤ 32
  case neg =>
   rw [decide_eq_false hl] at CL
   obtain ⟨a4, a21, a22, a23, a40, a41⟩ := A0.out.cells
   unfold Pt.V at a21
   rw [hg] at a40
   rw [hw] at a41
   go_enter Try.func99, Try.ntmps99
   go_wp2_with ((with_reducible refine so0 ?_ ?_); (focus rfl))
   refine (CL.out _).mono ?_
   rintro e w2 ⟨rfl, rfl⟩
   clear CL
   go_wp2_with fail
   go_ret
   have e : z = false := by
    rw [HZ.out]; rw [show decide (1 ≤ a.ct.lim ∧ a.ct.lim ≤ 32) = false from decide_eq_false hl]; rfl
   exact ⟨congrArg (fun b => Ending.returned (.bool b)) e.symm, BW.out⟩
  rw [decide_eq_true hl] at CL
  rw [show decide (1 ≤ a.ct.lim ∧ a.ct.lim ≤ 32) = true from decide_eq_true hl, Bool.true_and] at HZ
  obtain ⟨hl1, hl2⟩ := hl
  by_cases hu : 0 ≤ a.used
  case neg =>
   have hu' : decide (0 ≤ a.used) = false := decide_eq_false hu
   have HU := Hi hu
   clear hu
   obtain ⟨a4, a21, a22, a23, a40, a41⟩ := A0.out.cells
   unfold Pt.V at a21
   rw [hg] at a40
   rw [hw] at a41
   go_enter Try.func99, Try.ntmps99
   go_wp2_with ((with_reducible refine so0 ?_ ?_); (focus rfl))
   refine (CL.out _).mono ?_
   rintro e w2 ⟨rfl, rfl⟩
   clear CL
   go_wp2_with fail
   go_ret
   have e : z = false := by
    rw [HZ.out]; rw [show decide (0 ≤ a.ct.used) = false from decide_eq_false (by have := HU.out; show ¬ (0 ≤ a.used); omega)]; rfl
   exact ⟨congrArg (fun b => Ending.returned (.bool b)) e.symm, BW.out⟩
  by_cases hv : a.used < a.lim
  case neg =>
   have hv' : decide (a.used < a.lim) = false := decide_eq_false hv
   have HV := Hi hv
   clear hv
   obtain ⟨a4, a21, a22, a23, a40, a41⟩ := A0.out.cells
   unfold Pt.V at a21
   rw [hg] at a40
   rw [hw] at a41
   go_enter Try.func99, Try.ntmps99
   go_wp2_with ((with_reducible refine so0 ?_ ?_); (focus rfl))
   refine (CL.out _).mono ?_
   rintro e w2 ⟨rfl, rfl⟩
   clear CL
   go_wp2_with fail
   go_ret
   have e : z = false := by
    rw [HZ.out]; rw [show decide (a.ct.used < a.ct.lim) = false from decide_eq_false (by have := HV.out; show ¬ (a.used < a.lim); omega)]; simp
   exact ⟨congrArg (fun b => Ending.returned (.bool b)) e.symm, BW.out⟩
  rw [show decide (0 ≤ a.ct.used) = true from decide_eq_true hu, show decide (a.ct.used < a.ct.lim) = true from decide_eq_true hv, Bool.true_and, Bool.true_and] at HZ
  obtain ⟨a4, a21, a22, a23, a40, a41⟩ := A0.out.cells
  unfold Pt.V at a21
  rw [hg] at a40
  rw [hw] at a41
  go_enter Try.func99, Try.ntmps99
  go_wp2_with ((with_reducible refine so0 ?_ ?_); (focus rfl))
  refine (CL.out _).mono ?_
  rintro e w2 ⟨rfl, rfl⟩
  clear CL
  go_wp2_with ((with_reducible refine so0 ?_ ?_); (focus rfl))
  refine (CP.out _).mono ?_
  rintro e w2 ⟨rfl, rfl⟩
  clear CP
  go_wp2_with fail
  go_ret
  have e : z = decide (a.sec.l.length ≤ 64) := HZ.out
  exact ⟨congrArg (fun b => Ending.returned (.bool b)) e.symm, BW.out⟩
 rw [show a.ct.gone = true from hg] at HZ
 simp only [if_true] at HZ
 have CS := Hi (fun w1 k => CS.out a.wiped w1 k)
 rw [show (goneVt a.id a.gen a.wiped).ct = goneC a.ct.id a.ct.gen a.ct.wiped from rfl, ← HZ.out] at CS
 obtain ⟨a4, a21, a22, a23, a40, a41⟩ := A0.out.cells
 unfold Pt.V at a21
 rw [hg] at a40
 go_enter Try.func99, Try.ntmps99
 go_wp2_with ((with_reducible refine so0 ?_ ?_); (focus rfl))
 refine at9 (by go_simp) fun K0 hK => ld_v _ _ a rfl rfl A0.out (hK _ _ ?_)
 clear hK
 go_wp2_with ((with_reducible refine so0 ?_ ?_); (focus rfl))
 refine at9 (by go_simp) fun K0 hK => ld_vid _ _ a rfl rfl A0.out (hK _ _ ?_)
 clear hK
 go_wp2_with ((with_reducible refine so0 ?_ ?_); (focus rfl))
 refine at9 (by go_simp) fun K0 hK => wp_build _ _ rfl _ (built_gone a.id a.gen a.wiped HID.out) (hK _ _ ?_)
 clear hK
 go_wp2_with ((with_reducible refine so0 ?_ ?_); (focus rfl))
 refine (CS.out _ BW.out).mono ?_
 rintro e w2 ⟨rfl, x2⟩
 have X2 := Hi (Ex.trans BW.out x2)
 clear CS x2
 go_wp2_with fail
 go_ret
 exact ⟨rfl, X2.out⟩
set_option maxHeartbeats 4000000 in
set_option maxRecDepth 100000 in
theorem rright_any (a : Vt) (w : World) (ha : VI w a) : Calls Try.prog 121 #[a.V] w fun e w' => e = .returned (.bool a.ct.right) ∧ Ex w w' := by
 obtain ⟨z, hz⟩ : ∃ z, z = a.ct.right := ⟨_, rfl⟩
 rw [← hz]
 have HZ := Hi hz
 clear hz
 have HID := Hi ha.ok.idN
 have g0 := ha.ok.gen0
 have OK := Hi ha.ok
 obtain ⟨cs, hcs⟩ : ∃ cs, cs = a.C.toArray := ⟨_, rfl⟩
 have A0 : Hid (VB (w.alloc (.cells cs 36)) w.heap.size a) := Hi ⟨ha.ok, by rw [hcs]; exact Bk.new rfl _ _⟩
 have BW : Hid (Ex w (w.alloc (.cells cs 36))) := Hi (Ex.alloc w _)
 have AI := Hi (ha.ext BW.out)
 rw [show (Calls Try.prog 121 #[a.V] w) = (Calls Try.prog 121 #[.agg cs] w) by rw [hcs]; rfl]
 clear hcs ha
 have CN := Hi (fun w1 => rnum_any a.gen w1)
 by_cases h1 : 1 ≤ a.gen
 case neg =>
  obtain ⟨a4, a21, a22, a23, a40, a41⟩ := A0.out.cells
  unfold Pt.V at a21
  go_enter Try.func121, Try.ntmps121
  go_wp2_with fail
  go_ret
  have e : z = false := by
   rw [HZ.out]; unfold Vc.right
   have h : ¬ (1 ≤ a.ct.gen ∧ a.ct.gen ≤ 1099511627776) := by show ¬ (1 ≤ a.gen ∧ a.gen ≤ 1099511627776); omega
   rw [decide_eq_false h]; rfl
  exact ⟨congrArg (fun b => Ending.returned (.bool b)) e.symm, BW.out⟩
 by_cases h2 : a.gen ≤ 1099511627776
 case neg =>
  have h2' : decide (a.gen ≤ 1099511627776) = false := by simpa using h2
  rw [h2'] at CN
  obtain ⟨a4, a21, a22, a23, a40, a41⟩ := A0.out.cells
  unfold Pt.V at a21
  go_enter Try.func121, Try.ntmps121
  go_wp2_with ((with_reducible refine so0 ?_ ?_); (focus rfl))
  refine (CN.out _).mono ?_
  rintro e w2 ⟨rfl, rfl⟩
  clear CN
  go_wp2_with fail
  go_ret
  have e : z = false := by
   rw [HZ.out]; unfold Vc.right
   have h : ¬ (1 ≤ a.ct.gen ∧ a.ct.gen ≤ 1099511627776) := by show ¬ (1 ≤ a.gen ∧ a.gen ≤ 1099511627776); omega
   rw [decide_eq_false h]; rfl
  exact ⟨congrArg (fun b => Ending.returned (.bool b)) e.symm, BW.out⟩
 have HG : Hid (a.ct.right = if a.ct.gone = true then decide (a.ct = goneC a.ct.id a.ct.gen a.ct.wiped) else (!a.ct.wiped && decide (1 ≤ a.ct.lim ∧ a.ct.lim ≤ 32) && decide (0 ≤ a.ct.used) && decide (a.ct.used < a.ct.lim) && decide (a.ct.sec.length ≤ 64))) := Hi (by
  unfold Vc.right
  rw [decide_eq_true (show 1 ≤ a.ct.gen ∧ a.ct.gen ≤ 1099511627776 from ⟨h1, h2⟩), Bool.true_and])
 rw [HG.out] at HZ
 clear HG
 have h2' : decide (a.gen ≤ 1099511627776) = true := by simpa using h2
 rw [h2'] at CN
 clear h2'
 cases hg : a.gone
 case false =>
  rw [show a.ct.gone = false from hg] at HZ
  simp only [Bool.false_eq_true, if_false] at HZ
  cases hw : a.wiped
  case true =>
   obtain ⟨a4, a21, a22, a23, a40, a41⟩ := A0.out.cells
   unfold Pt.V at a21
   rw [hg] at a40
   rw [hw] at a41
   go_enter Try.func121, Try.ntmps121
   go_wp2_with ((with_reducible refine so0 ?_ ?_); (focus rfl))
   refine (CN.out _).mono ?_
   rintro e w2 ⟨rfl, rfl⟩
   clear CN
   go_wp2_with fail
   go_ret
   have e : z = false := by
    rw [HZ.out]; rw [show a.ct.wiped = true from hw]; rfl
   exact ⟨congrArg (fun b => Ending.returned (.bool b)) e.symm, BW.out⟩
  rw [show a.ct.wiped = false from hw] at HZ
  simp only [Bool.not_false, Bool.true_and] at HZ
  by_cases hl : 1 ≤ a.lim ∧ a.lim ≤ 32
  case neg =>
   by_cases hl1 : 1 ≤ a.lim
   case pos =>
    have hl2 : decide (a.lim ≤ 32) = false := decide_eq_false (fun h => hl ⟨hl1, h⟩)
    have HL := Hi hl
    clear hl
    obtain ⟨a4, a21, a22, a23, a40, a41⟩ := A0.out.cells
    unfold Pt.V at a21
    rw [hg] at a40
    rw [hw] at a41
    go_enter Try.func121, Try.ntmps121
    go_wp2_with ((with_reducible refine so0 ?_ ?_); (focus rfl))
    refine (CN.out _).mono ?_
    rintro e w2 ⟨rfl, rfl⟩
    clear CN
    go_wp2_with fail
    go_ret
    have e : z = false := by
     rw [HZ.out]; rw [show decide (1 ≤ a.ct.lim ∧ a.ct.lim ≤ 32) = false from decide_eq_false HL.out]; rfl
    exact ⟨congrArg (fun b => Ending.returned (.bool b)) e.symm, BW.out⟩
   have hl2 : decide (1 ≤ a.lim) = false := decide_eq_false hl1
   have HL := Hi hl
   clear hl
   obtain ⟨a4, a21, a22, a23, a40, a41⟩ := A0.out.cells
   unfold Pt.V at a21
   rw [hg] at a40
   rw [hw] at a41
   go_enter Try.func121, Try.ntmps121
   go_wp2_with ((with_reducible refine so0 ?_ ?_); (focus rfl))
   refine (CN.out _).mono ?_
   rintro e w2 ⟨rfl, rfl⟩
   clear CN
   go_wp2_with fail
   go_ret
   have e : z = false := by
    rw [HZ.out]; rw [show decide (1 ≤ a.ct.lim ∧ a.ct.lim ≤ 32) = false from decide_eq_false HL.out]; rfl
   exact ⟨congrArg (fun b => Ending.returned (.bool b)) e.symm, BW.out⟩
  rw [show decide (1 ≤ a.ct.lim ∧ a.ct.lim ≤ 32) = true from decide_eq_true hl, Bool.true_and] at HZ
  obtain ⟨hl1, hl2⟩ := hl
  by_cases hu : 0 ≤ a.used
  case neg =>
   have hu' : decide (0 ≤ a.used) = false := decide_eq_false hu
   have HU := Hi hu
   clear hu
   obtain ⟨a4, a21, a22, a23, a40, a41⟩ := A0.out.cells
   unfold Pt.V at a21
   rw [hg] at a40
   rw [hw] at a41
   go_enter Try.func121, Try.ntmps121
   go_wp2_with ((with_reducible refine so0 ?_ ?_); (focus rfl))
   refine (CN.out _).mono ?_
   rintro e w2 ⟨rfl, rfl⟩
   clear CN
   go_wp2_with fail
   go_ret
   have e : z = false := by
    rw [HZ.out]; rw [show decide (0 ≤ a.ct.used) = false from decide_eq_false (by have := HU.out; show ¬ (0 ≤ a.used); omega)]; rfl
   exact ⟨congrArg (fun b => Ending.returned (.bool b)) e.symm, BW.out⟩
  by_cases hv : a.used < a.lim
  case neg =>
   have hv' : decide (a.used < a.lim) = false := decide_eq_false hv
   have HV := Hi hv
   clear hv
   obtain ⟨a4, a21, a22, a23, a40, a41⟩ := A0.out.cells
   unfold Pt.V at a21
   rw [hg] at a40
   rw [hw] at a41
   go_enter Try.func121, Try.ntmps121
   go_wp2_with ((with_reducible refine so0 ?_ ?_); (focus rfl))
   refine (CN.out _).mono ?_
   rintro e w2 ⟨rfl, rfl⟩
   clear CN
   go_wp2_with fail
   go_ret
   have e : z = false := by
    rw [HZ.out]; rw [show decide (a.ct.used < a.ct.lim) = false from decide_eq_false (by have := HV.out; show ¬ (a.used < a.lim); omega)]; simp
   exact ⟨congrArg (fun b => Ending.returned (.bool b)) e.symm, BW.out⟩
  rw [show decide (0 ≤ a.ct.used) = true from decide_eq_true hu, show decide (a.ct.used < a.ct.lim) = true from decide_eq_true hv, Bool.true_and, Bool.true_and] at HZ
  obtain ⟨a4, a21, a22, a23, a40, a41⟩ := A0.out.cells
  unfold Pt.V at a21
  rw [hg] at a40
  rw [hw] at a41
  have HS : Hid (decide ((a.sec.l.length : Int) ≤ 64) = decide (a.sec.l.length ≤ 64)) := Hi (by by_cases h : a.sec.l.length ≤ 64 <;> simp [h] <;> omega)
  go_enter Try.func121, Try.ntmps121
  go_wp2_with ((with_reducible refine so0 ?_ ?_); (focus rfl))
  refine (CN.out _).mono ?_
  rintro e w2 ⟨rfl, rfl⟩
  clear CN
  go_wp2_with fail
  go_ret
  have e : z = decide (a.sec.l.length ≤ 64) := HZ.out
  rw [← HS.out] at e
  exact ⟨congrArg (fun b => Ending.returned (.bool b)) e.symm, BW.out⟩
 rw [show a.ct.gone = true from hg] at HZ
 simp only [if_true] at HZ
 have HQ : Hid (z = true ↔ (a.lim = 0 ∧ a.used = 0 ∧ a.pin = z16 ∧ a.own = z16 ∧ a.sec.l = [])) := Hi (by
  rw [HZ.out, decide_eq_true_iff, Vc.eq_iff]
  constructor
  ·rintro ⟨_, _, q1, q2, q3, q4, q5, _, _⟩; exact ⟨q3, q4, q1, q5, q2⟩
  ·rintro ⟨q3, q4, q1, q5, q2⟩; exact ⟨rfl, rfl, q1, q2, q3, q4, q5, hg, rfl⟩)
 obtain ⟨a4, a21, a22, a23, a40, a41⟩ := A0.out.cells
 unfold Pt.V at a21
 rw [hg] at a40
 go_enter Try.func121, Try.ntmps121
 go_wp2_with ((with_reducible refine so3 [2000] ?_ ?_); (focus rfl))
 refine (CN.out _).mono ?_
 rintro e w2 ⟨rfl, rfl⟩
 clear CN
 go_wp2_with ((with_reducible refine so3 [2000] ?_ ?_); (focus rfl))
 refine at9 (by go_simp) fun K0 hK => wp_eql_i64 _ _ _ rfl a.lim 0 rfl rfl (hK _ _ ?_)
 clear hK
 by_cases hq : a.lim = 0
 case neg =>
  rw [decide_eq_false hq]
  go_wp2_with fail
  go_ret
  have e : z = false := by
   cases hR : z with
   | false => rfl
   | true => exact absurd (HQ.out.1 hR).1 hq
  exact ⟨congrArg (fun b => Ending.returned (.bool b)) e.symm, BW.out⟩
 rw [decide_eq_true hq]
 have Q0 := Hi hq
 clear hq
 go_wp2_with ((with_reducible refine so3 [2000] ?_ ?_); (focus rfl))
 refine at9 (by go_simp) fun K0 hK => wp_eql_i64 _ _ _ rfl a.used 0 rfl rfl (hK _ _ ?_)
 clear hK
 by_cases hq : a.used = 0
 case neg =>
  rw [decide_eq_false hq]
  go_wp2_with fail
  go_ret
  have e : z = false := by
   cases hR : z with
   | false => rfl
   | true => exact absurd (HQ.out.1 hR).2.1 hq
  exact ⟨congrArg (fun b => Ending.returned (.bool b)) e.symm, BW.out⟩
 rw [decide_eq_true hq]
 have Q1 := Hi hq
 clear hq
 go_wp2_with ((with_reducible refine so3 [2000] ?_ ?_); (focus rfl))
 refine at9 (by go_simp) fun K0 hK => ld_vpin _ _ a rfl rfl A0.out (hK _ _ ?_)
 clear hK
 go_wp2_with ((with_reducible refine so3 [2000] ?_ ?_); (focus rfl))
 refine at9 (by go_simp) fun K0 hK => wp_build _ _ rfl _ built_z16 (hK _ _ ?_)
 clear hK
 go_wp2_with ((with_reducible refine so3 [2000] ?_ ?_); (focus rfl))
 refine at9 (by go_simp) fun K0 hK => wp_eql_dig _ _ _ rfl a.pin z16 A0.out.1.pinN rfl rfl rfl (hK _ _ ?_)
 clear hK
 by_cases hq : a.pin = z16
 case neg =>
  rw [decide_eq_false hq]
  go_wp2_with fail
  go_ret
  have e : z = false := by
   cases hR : z with
   | false => rfl
   | true => exact absurd (HQ.out.1 hR).2.2.1 hq
  exact ⟨congrArg (fun b => Ending.returned (.bool b)) e.symm, BW.out⟩
 rw [decide_eq_true hq]
 have Q2 := Hi hq
 clear hq
 go_wp2_with ((with_reducible refine so3 [2000] ?_ ?_); (focus rfl))
 refine at9 (by go_simp) fun K0 hK => ld_vown _ _ a rfl rfl A0.out (hK _ _ ?_)
 clear hK
 go_wp2_with ((with_reducible refine so3 [2000] ?_ ?_); (focus rfl))
 refine at9 (by go_simp) fun K0 hK => wp_build _ _ rfl _ built_z16 (hK _ _ ?_)
 clear hK
 go_wp2_with ((with_reducible refine so3 [2000] ?_ ?_); (focus rfl))
 refine at9 (by go_simp) fun K0 hK => wp_eql_dig _ _ _ rfl a.own z16 A0.out.1.ownN rfl rfl rfl (hK _ _ ?_)
 clear hK
 by_cases hq : a.own = z16
 case neg =>
  rw [decide_eq_false hq]
  go_wp2_with fail
  go_ret
  have e : z = false := by
   cases hR : z with
   | false => rfl
   | true => exact absurd (HQ.out.1 hR).2.2.2.1 hq
  exact ⟨congrArg (fun b => Ending.returned (.bool b)) e.symm, BW.out⟩
 rw [decide_eq_true hq]
 have Q3 := Hi hq
 clear hq
 go_wp2_with ((with_reducible refine so3 [2000] ?_ ?_); (focus rfl))
 refine at9 (by go_simp) fun K0 hK => wp_eql_i64 _ _ _ rfl a.sec.l.length 0 rfl rfl (hK _ _ ?_)
 clear hK
 by_cases hq : ((a.sec.l.length : Nat) : Int) = 0
 case neg =>
  rw [decide_eq_false hq]
  go_wp2_with fail
  go_ret
  have e : z = false := by
   cases hR : z with
   | false => rfl
   | true => exact absurd (by rw [(HQ.out.1 hR).2.2.2.2]; rfl) hq
  exact ⟨congrArg (fun b => Ending.returned (.bool b)) e.symm, BW.out⟩
 rw [decide_eq_true hq]
 go_wp2_with fail
 go_ret
 have e : z = true := HQ.out.2 ⟨Q0.out, Q1.out, Q2.out, Q3.out, List.eq_nil_of_length_eq_zero (by omega)⟩
 exact ⟨congrArg (fun b => Ending.returned (.bool b)) e.symm, BW.out⟩
def Vc.left (c : Vc) : Int := if c.gone = true then 0 else if c.right = true then c.lim - c.used else 0
end Go.Proofs.Ytmjfnpmnhehnkaa
namespace Go.Proofs.Ytmjfnpmnhehnkaa
open Go.RowKit
structure Qc where
 op : Int
 id : List UInt8
 pin : List UInt8
 sec : List UInt8
 lim : Int
 own : List UInt8
 key : List UInt8
 client : Int
 num : Int
def Qt.ct (x : Qt) : Qc := ⟨x.op, x.id, x.pin, x.sec.l, x.lim, x.own, x.key, x.client, x.num⟩
structure QI (w : World) (x : Qt) : Prop where
 ok : x.Ok
 sec : x.sec.In w w.heap.size
theorem QI.ext {w w' : World} {x : Qt} (h : QI w x) (k : Ex w w') : QI w' x := ⟨h.ok, h.sec.ext k⟩
structure Rc where
 why : Int
 id : List UInt8
 gen : Int
 left : Int
 sec : List UInt8
 client : Int
 num : Int
def Rt.ct (x : Rt) : Rc := ⟨x.why, x.id, x.gen, x.left, x.sec.l, x.client, x.num⟩
structure RI (w : World) (x : Rt) : Prop where
 ok : x.Ok
 sec : x.sec.In w w.heap.size
theorem RI.ext {w w' : World} {x : Rt} (h : RI w x) (k : Ex w w') : RI w' x := ⟨h.ok, h.sec.ext k⟩
def Qc.right (c : Qc) : Bool := decide (0 ≤ c.client ∧ c.client < 4 ∧ c.num ≤ 1099511627776) && (if c.op = 1 ∨ c.op = 3 then decide (1 ≤ c.lim ∧ c.lim ≤ 32) && decide (c.sec.length ≤ 64) else if c.op = 2 then decide (c.lim = 0) && decide (c.own = z16) && decide (c.sec = []) else if c.op = 4 then decide (c.lim = 0) && decide (c.pin = z16) && decide (c.sec = []) else false)
def OwnPost (a : Vt) (w : World) (e : Ending) (w' : World) : Prop := ∃ p : Pt, e = .returned (Vt.V { a with sec := p }) ∧ p.l = a.sec.l ∧ PN w' w.heap.size p ∧ Ex w w'
set_option maxHeartbeats 4000000 in
set_option maxRecDepth 100000 in
theorem ownv_any (a : Vt) (hL : a.sec.l.length ≤ 140737488355328) (w : World) (ha : VI w a) : Calls Try.prog 101 #[a.V] w (OwnPost a w) := by
 have CC := Hi (fun w1 (k : Ex w w1) => bclone_any a.sec hL w1 (ha.ext k).sec)
 obtain ⟨cs, hcs⟩ : ∃ cs, cs = a.C.toArray := ⟨_, rfl⟩
 have OK := Hi ha.ok
 have A0 : Hid (VB ((w.alloc (.cells cs 36)).alloc (.cells zeroVt.C.toArray 36)) w.heap.size a) := Hi ⟨ha.ok, by rw [hcs]; exact (Bk.new rfl _ _).more _⟩
 have Z0 : Hid (VB ((w.alloc (.cells cs 36)).alloc (.cells zeroVt.C.toArray 36)) (w.heap.size + 1) zeroVt) := Hi ⟨zeroVt_ok, Bk.new (by simp) _ _⟩
 have BW : Hid (Ex w ((w.alloc (.cells cs 36)).alloc (.cells zeroVt.C.toArray 36))) := Hi (Ex.trans (Ex.alloc w _) (Ex.alloc _ _))
 rw [show (Calls Try.prog 101 #[a.V] w) = (Calls Try.prog 101 #[.agg cs] w) by rw [hcs]; rfl]
 clear hcs ha
 go_enter Try.func101, Try.ntmps101
 go_wp2_with ((with_reducible refine so2 [1000+25, 25] ?_ ?_); (focus rfl))
 change Stop (wpList _ _ _ _ _ ((w.alloc (.cells cs 36)).alloc (.cells zeroVt.C.toArray 36)))
 generalize hw1 : (w.alloc (.cells cs 36)).alloc (.cells zeroVt.C.toArray 36) = w1 at *
 clear hw1
 obtain ⟨B, hB⟩ : ∃ B, B = w.heap.size := ⟨_, rfl⟩
 rw [← hB] at A0 Z0 ⊢
 have HB := Hi hB
 clear hB
 obtain ⟨a4, a21, a22, a23, a40, a41⟩ := A0.out.cells
 unfold Pt.V at a21 CC
 clear a4 a22 a23 a40 a41
 (with_reducible refine ⟨?_⟩)
 go_wp2_with ((with_reducible refine so2 [1000+25] ?_ ?_); (focus rfl))
 refine (CC.out _ BW.out).mono ?_
 rintro e w2 ⟨p, rfl, hpl, hpi, x2⟩
 have A2 := Hi (A0.out.ext x2)
 have Z2 := Hi (Z0.out.ext x2)
 have X2 := Hi (Ex.trans BW.out x2)
 have HPL := Hi hpl
 have HPI := Hi (hpi.less (show B + 2 ≤ w1.heap.size from Z0.out.lt))
 clear CC x2 a21 A0 Z0 hpl hpi BW
 go_wp2_with ((with_reducible refine so2 [1000+25] ?_ ?_); (focus rfl))
 refine at9 (by go_simp) fun K0 hK => st_vsec (by kernel_rfl) _ _ B a p rfl rfl rfl A2.out (fun w3 hd ho => hK _ _ ?_)
 clear hK
 have A3 := Hi hd
 have Z3 := Hi (ho.vb Z2.out (by omega))
 have X3 := Hi (ho.below w.heap.size (by rw [← HB.out]; omega) w X2.out)
 have P3 := Hi (HPI.out.only ho (by omega))
 clear A2 Z2 X2 hd ho HPI
 go_wp2_with ((with_reducible refine so2 [1000+25] ?_ ?_); (focus rfl))
 refine at9 (by go_simp) fun K0 hK => ld_v _ _ { a with sec := p } rfl rfl A3.out (hK _ _ ?_)
 clear hK
 go_wp2_with ((with_reducible refine so2 [1000+25] ?_ ?_); (focus rfl))
 refine at9 (by go_simp) fun K0 hK => st_v _ _ (B + 1) { a with sec := p } rfl rfl rfl A3.out.1 Z3.out.2 (by rw [List.size_toArray, Vt.len zeroVt_ok]) (fun w4 hd ho => hK _ _ ?_)
 clear hK
 have X4 := ho.below w.heap.size (by rw [← HB.out]; omega) w X3.out
 have P4 := P3.out.only ho (by omega)
 clear ho
 go_wp2_with fail
 exact bodyPost_ret (res_v rfl _ _ (B + 1) rfl { a with sec := p } hd) rfl ⟨p, rfl, HPL.out, P4.less (by rw [← HB.out]; omega), X4⟩
end Go.Proofs.Ytmjfnpmnhehnkaa
namespace Go.Proofs.Ytmjfnpmnhehnkaa
open Go.RowKit
/-- blocks below B, and those of types that are not in S, are as they were -/
structure Kt (S : List Nat) (B : Nat) (w w' : World) : Prop where
 below : Below B w w'
 typ : ∀ (h : Nat) (cs : Array Value) (t : TypeId) (fr : Nat × Nat), w.heap[h]? = some (.cells cs t fr) → t ∉ S → w'.heap[h]? = some (.cells cs t fr)
theorem Kt.size {S : List Nat} {B : Nat} {w w' : World} (h : Kt S B w w') : w.heap.size ≤ w'.heap.size := h.below.size
theorem Kt.refl (S : List Nat) (B : Nat) (w : World) : Kt S B w w := ⟨Below.refl _ _, fun _ _ _ _ h _ => h⟩
theorem Kt.trans {S : List Nat} {B : Nat} {a b c : World} (h : Kt S B a b) (k : Kt S B b c) : Kt S B a c := ⟨h.below.trans k.below, fun i cs t fr hi h1 => k.typ i cs t fr (h.typ i cs t fr hi h1) h1⟩
theorem Kt.mono {S S' : List Nat} {B : Nat} {a b : World} (h : Kt S B a b) (hs : ∀ x ∈ S, x ∈ S') : Kt S' B a b := ⟨h.below, fun i cs t fr hi h1 => h.typ i cs t fr hi (fun hx => h1 (hs _ hx))⟩
theorem blk_lt {w : World} {g : Nat} {o : Obj} (h : w.heap[g]? = some o) : g < w.heap.size := (Array.getElem?_eq_some_iff.1 h).1
theorem Ex.kt {S : List Nat} {B : Nat} {w w' : World} (h : Ex w w') (hB : B ≤ w.heap.size) : Kt S B w w' := ⟨h.mono hB, fun i _ _ _ hi _ => (h.block i (blk_lt hi)).trans hi⟩
theorem Kt.bk {S : List Nat} {B g : Nat} {w w' : World} {t : TypeId} {cs : Array Value} (h : Kt S B w w') (hb : Bk w g t cs) (ht : t ∉ S) : Bk w' g t cs := h.typ _ _ _ _ hb ht
theorem Kt.grown {w w' : World} {B : Nat} {e : TypeId} {sz n : Nat} {v : Value} {xs : List Value} (h : w.ownsRow B e sz v n xs) (k : w.grownBy w' v.ownBlock) (hB : B ≤ w.heap.size) : Kt [e] B w w' := by
 refine ⟨(Below.refl B w).grown k hB (fun j hj => (h.lt j hj).1), fun i cs t fr hi h1 => (k.block i (blk_lt hi) ?_).trans hi⟩
 intro he
 obtain ⟨_, ⟨hv, _⟩ | ⟨g, cap, cur, hv, _, hg, _⟩⟩ := h
 ·rw [hv] at he; cases he
 rw [hv] at he
 obtain rfl : i = g := by simpa [Value.ownBlock] using he
 rw [hg] at hi
 injection hi with hi
 injection hi with _ h2
 exact h1 (by rw [← h2]; exact List.mem_singleton.2 rfl)
theorem Kt.md {S : List Nat} {B g : Nat} {w w' : World} {t : TypeId} {cs : Array Value} (k : Md g w w') (hg : B ≤ g) (hb : Bk w g t cs) (ht : t ∈ S) : Kt S B w w' :=
 ⟨k.below B hg _ (Below.refl _ _), fun i cs' t' fr hi h1 => by
  refine (k.other i ?_ (blk_lt hi)).trans hi
  rintro rfl
  unfold Bk at hb
  rw [hb] at hi
  injection hi with hi
  injection hi with _ hi
  exact h1 (by rw [← hi]; exact ht)⟩
theorem Kt.row {S : List Nat} {B B' : Nat} {w w' : World} {e : TypeId} {sz n : Nat} {v : Value} {xs : List Value} (k : Kt S B w w') (h : w.ownsRow B' e sz v n xs) (he : e ∉ S) : w'.ownsRow B' e sz v n xs := by
 refine ⟨h.1, h.2.imp id fun ⟨g, cap, cur, hv, hb, hg, hr⟩ => ⟨g, cap, cur, hv, hb, k.typ _ _ _ _ hg he, hr⟩⟩
theorem Ex.row {B' : Nat} {w w' : World} {e : TypeId} {sz n : Nat} {v : Value} {xs : List Value} (k : Ex w w') (h : w.ownsRow B' e sz v n xs) : w'.ownsRow B' e sz v n xs :=
 (Ex.kt (S := []) (B := 0) k (Nat.zero_le _)).row h (by simp)
/-- what is claimed of a value, stable where blocks of other types than its own are turned -/
structure Rv (B : Nat) where
 ty : Nat
 holds : Value → World → Prop
 stab : ∀ S v w w', holds v w → Kt S B w w' → ty ∉ S → holds v w'
def Rv.is {B : Nat} (x : Value) : Rv B := ⟨0, fun v _ => v = x, fun _ _ _ _ h _ _ => h⟩
def Rv.any {B : Nat} : Rv B := ⟨0, fun _ _ => True, fun _ _ _ _ _ _ _ => trivial⟩
def Rv.own {B : Nat} (e : TypeId) (sz n : Nat) (xs : List Value) : Rv B := ⟨e, fun v w => w.ownsRow B e sz v n xs, fun _ _ _ _ h k hs => k.row h hs⟩
theorem set_falseR {l : Array Bool} {i k : Nat} (h : (l.setIfInBounds i true).getD k false = false) : l.getD k false = false := by
 by_cases e : i = k
 ·subst e
  rw [Array.getD_eq_getD_getElem?] at h ⊢
  by_cases hi : i < l.size
  ·rw [Array.getElem?_setIfInBounds_self_of_lt hi] at h; cases h
  rw [Array.getElem?_eq_none (by omega)]; rfl
 rw [gset e false] at h; exact h
structure JR (B : Nat) (base : World) (S : List Nat) (T : List (Rv B)) (tys : List Nat) (cons : List (Option Nat)) (prs : List (Nat × Nat)) (listed : Array Bool) (f : Nat → Value) (w : World) : Prop where
 lo : B ≤ w.heap.size
 ext : Kt S B base w
 vals : ∀ i, listed.getD i false = true → (∀ c, cons.getD i none = some c → listed.getD c false = false) → (T.getD i .any).holds (f i) w
 ord : ∀ x ∈ prs, listed.getD x.1 false = true → listed.getD x.2 false = true
theorem JR.start {B : Nat} {base : World} {S : List Nat} {T : List (Rv B)} {tys : List Nat} {cons : List (Option Nat)} {prs : List (Nat × Nat)} (hB : B ≤ base.heap.size) (listed : Array Bool) (f : Nat → Value) (h0 : ∀ i, listed.getD i false = false) : JR B base S T tys cons prs listed f base.drew :=
 ⟨hB, Ex.kt (show Ex base base.drew from (Below.refl base.heap.size base).drew) hB, fun i hi => absurd hi (by rw [h0 i]; decide), fun x _ hx => absurd hx (by rw [h0 x.1]; decide)⟩
theorem JR.next {B : Nat} {base : World} {S : List Nat} {T : List (Rv B)} {tys : List Nat} {cons : List (Option Nat)} {prs : List (Nat × Nat)} {listed : Array Bool} {f : Nat → Value} {w w' : World} (h : JR B base S T tys cons prs listed f w)
  (hty : T.map Rv.ty = tys) {i : Nat} (hi : i < listed.size) {v : Value} (S' : List Nat) (hS : ∀ x ∈ S', x ∈ S) (h0 : 0 ∉ S') (k : Kt S' B w w') (hv : (T.getD i .any).holds v w')
  (hc : ∀ j, j ≠ i → tys.getD j 0 ∈ S' → listed.getD j false = true → ∃ c, cons.getD j none = some c ∧ (c = i ∨ listed.getD c false = true))
  (ho : ∀ x ∈ prs, x.1 = i → listed.getD x.2 false = true) : JR B base S T tys cons prs (listed.setIfInBounds i true) (upd f i v) w' := by
 have new : (listed.setIfInBounds i true).getD i false = true := by
  rw [Array.getD_eq_getD_getElem?, Array.getElem?_setIfInBounds_self_of_lt hi]; rfl
 have mono : ∀ c, listed.getD c false = true → (listed.setIfInBounds i true).getD c false = true := fun c hc => by
  by_cases e : i = c
  ·subst e; exact new
  ·rw [gset e false]; exact hc
 refine ⟨Nat.le_trans h.lo k.size, h.ext.trans (k.mono hS), fun j hj hcj => ?_, fun x hx h1 => ?_⟩
 ·by_cases e : j = i
  ·subst e; rw [upd_same]; exact hv
  rw [upd_ne _ _ e]
  have hj' : listed.getD j false = true := by
   rcases listed_set hj with rfl | hj
   ·exact absurd rfl e
   ·exact hj
  have hold := h.vals j hj' (fun c hcc => set_falseR (hcj c hcc))
  refine (T.getD j .any).stab S' _ _ _ hold k ?_
  have ht : (T.getD j .any).ty = tys.getD j 0 := by
   rw [← hty, List.getD_eq_getElem?_getD, List.getD_eq_getElem?_getD, List.getElem?_map]
   cases T[j]? <;> rfl
  rw [ht]
  intro hin
  obtain ⟨c, hcc, hci⟩ := hc j e hin hj'
  have := hcj c hcc
  rcases hci with rfl | hci
  ·rw [new] at this; cases this
  rw [mono c hci] at this; cases this
 rcases listed_set h1 with e | h1
 ·exact mono _ (ho x hx e)
 exact mono _ (h.ord x hx h1)
theorem JR.plain {B : Nat} {base : World} {S : List Nat} {T : List (Rv B)} {tys : List Nat} {cons : List (Option Nat)} {prs : List (Nat × Nat)} {listed : Array Bool} {f : Nat → Value} {w w' : World} (h : JR B base S T tys cons prs listed f w)
  (hty : T.map Rv.ty = tys) {i : Nat} (hi : i < listed.size) {v : Value} (k : Ex w w') (hv : (T.getD i .any).holds v w')
  (ho : ∀ x ∈ prs, x.1 = i → listed.getD x.2 false = true) : JR B base S T tys cons prs (listed.setIfInBounds i true) (upd f i v) w' :=
 h.next hty hi [] (by simp) (by simp) (k.kt h.lo) hv (by simp) ho
/-- append to a row that is one's own -/
theorem wp_rapp {o : Oper} {a : Act} {w : World} {K : Act → World → Prop} {Q : Exit → Act → World → Prop} (s x : Operand) (t e : TypeId) (z : Value) (sz bytes : Nat)
  (hop : o.op = .call { callee := .builtin .append, args := #[s, x], argTypes := #[t, t] }) (hu : Try.prog.underlying t = some (.slice e))
  (hinfo : (Try.prog.info? e).map (fun i => (i.zero, i.size, i.bytes)) = some (some z, sz, bytes)) (hz : z.cells.size = sz) (hp : 0 < sz)
  (B n : Nat) (v : Value) (xs : List Value) (hs : a.eval s = v) (hown : w.ownsRow B e sz v n xs) (hB : B ≤ w.heap.size)
  (ad : Option Addr) (m c : Nat) (ys : List Value) (hx : a.eval x = .slice ad m c) (hl : ys.length = m * sz) (hnil : ad = none → c = 0 ∧ m = 0)
  (hr : ∀ A, ad = some A → ∀ j u, ys[j]? = some u → w.cell? (A.add j) = some u) (h1 : ∀ u ∈ ys, u.oneCell' = true)
  (hN : n + m ≤ 9223372036854775807) (hby : (n + m) * bytes ≤ 140737488355328)
  (h : ∀ v' w', w'.ownsRow B e sz v' (n + m) (xs ++ ys) → Kt [e] B w w' → (v = .slice none 0 0 → Ex w w') → K (a.put o.dst v') w') : o.wp Try.prog a w K Q := by
 obtain ⟨i0, hi0, hz0, hz1, hz2⟩ := info_parts hinfo
 have key : ∃ v' w', (Builtin.append_ #[t, t] o.type #[v, .slice ad m c]).run Try.prog w = .ok v' w' ∧ w'.ownsRow B e sz v' (n + m) (xs ++ ys) ∧ Kt [e] B w w' ∧ (v = .slice none 0 0 → Ex w w') := by
  cases had : ad with
  | none =>
   obtain ⟨rfl, rfl⟩ := hnil had
   obtain rfl : ys = [] := List.eq_nil_of_length_eq_zero (by rw [hl]; exact Nat.zero_mul _)
   refine ⟨v, w, run_append_owned_none w B t o.type e i0 sz hu hi0 v n xs hown, ?_, Kt.refl _ _ _, fun _ => Ex.refl _⟩
   rw [List.append_nil]; exact hown
  | some A =>
   obtain ⟨v', w', hrun, r1, r2, _⟩ := run_append_own (P := Try.prog) w B t o.type e i0 z sz bytes hu hi0 hz0 hz1 hz2 hz hp v n xs hown A m c ys hl (hr A had) h1 hN hby hB
   exact ⟨v', w', hrun, r1, Kt.grown hown r2 hB, fun hv => (Below.refl _ _).grown r2 (Nat.le_refl _) (fun k hk => by rw [hv] at hk; cases hk)⟩
 obtain ⟨v', w', hrun, r1, r2, r3⟩ := key
 unfold Oper.wp
 simp [execOp, hop, resolve, invoke, builtin, hs, hx, hrun, Result.andThen]
 exact h v' w' r1 r2 r3
end Go.Proofs.Ytmjfnpmnhehnkaa
