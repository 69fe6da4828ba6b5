/- Vf -/
import Derived.Test.YtmjfnpmnhehnkaaQae
namespace Go.Proofs.Ytmjfnpmnhehnkaa
open Go.RowKit
structure Qc where
 op : Int
 id : List UInt8
 pin : List UInt8
 sec : List UInt8
 lim : Int
 own : List UInt8
 key : List UInt8
 client : Int
 num : Int
def Qt.ct (x : Qt) : Qc := ⟨x.op, x.id, x.pin, x.sec.l, x.lim, x.own, x.key, x.client, x.num⟩
structure QI (w : World) (x : Qt) : Prop where
 ok : x.Ok
 sec : x.sec.In w w.heap.size
theorem QI.ext {w w' : World} {x : Qt} (h : QI w x) (k : Ex w w') : QI w' x := ⟨h.ok, h.sec.ext k⟩
structure Rc where
 why : Int
 id : List UInt8
 gen : Int
 left : Int
 sec : List UInt8
 client : Int
 num : Int
def Rt.ct (x : Rt) : Rc := ⟨x.why, x.id, x.gen, x.left, x.sec.l, x.client, x.num⟩
structure RI (w : World) (x : Rt) : Prop where
 ok : x.Ok
 sec : x.sec.In w w.heap.size
theorem RI.ext {w w' : World} {x : Rt} (h : RI w x) (k : Ex w w') : RI w' x := ⟨h.ok, h.sec.ext k⟩
def Qc.right (c : Qc) : Bool := decide (0 ≤ c.client ∧ c.client < 4 ∧ c.num ≤ 1099511627776) && (if c.op = 1 ∨ c.op = 3 then decide (1 ≤ c.lim ∧ c.lim ≤ 32) && decide (c.sec.length ≤ 64) else if c.op = 2 then decide (c.lim = 0) && decide (c.own = z16) && decide (c.sec = []) else if c.op = 4 then decide (c.lim = 0) && decide (c.pin = z16) && decide (c.sec = []) else false)
set_option maxHeartbeats 4000000 in
set_option maxRecDepth 100000 in
theorem qright_any (q : Qt) (w : World) (ha : QI w q) : Calls Try.prog 77 #[q.V] w fun e w' => e = .returned (.bool q.ct.right) ∧ Ex w w' := by
 obtain ⟨z, hz⟩ : ∃ z, z = q.ct.right := ⟨_, rfl⟩
 rw [← hz]
 have HZ := Lib.hid hz
 clear hz
 unfold Qc.right at HZ
 have CS := Lib.hid (fun w1 => sender_any q.client q.num w1)
 have CL := Lib.hid (fun w1 => limit_any q.lim w1)
 have CP := Lib.hid (fun w1 => secret_any q.sec w1)
 obtain ⟨cs, hcs⟩ : ∃ cs, cs = q.C.toArray := ⟨_, rfl⟩
 have A0 : Hid (QB (w.alloc (.cells cs 86)) w.heap.size q) := Lib.hid ⟨ha.ok, by rw [hcs]; exact Bk.new rfl _ _⟩
 have BW : Hid (Ex w (w.alloc (.cells cs 86))) := Lib.hid (Ex.alloc w _)
 rw [show (Calls Try.prog 77 #[q.V] w) = (Calls Try.prog 77 #[.agg cs] w) by rw [hcs]; rfl]
 clear hcs ha
 obtain ⟨q0, q21, q22, q55, q56⟩ := A0.out.cells
 unfold Pt.V at q21
 by_cases hs : 0 ≤ q.client ∧ q.client < 4 ∧ q.num ≤ 1099511627776
 case neg =>
  rw [decide_eq_false hs] at CS
  go_enter Try.func77, Try.ntmps77
  go_wp2_with ((with_reducible refine so0 ?_ ?_); (focus rfl))
  refine (CS.out _).mono ?_
  rintro e w2 ⟨rfl, rfl⟩
  clear CS
  go_wp2_with fail
  go_ret
  have e : z = false := by rw [HZ.out]; rw [show decide (0 ≤ q.ct.client ∧ q.ct.client < 4 ∧ q.ct.num ≤ 1099511627776) = false from decide_eq_false hs]; rfl
  exact ⟨congrArg (fun b => Ending.returned (.bool b)) e.symm, BW.out⟩
 rw [decide_eq_true hs] at CS
 rw [show decide (0 ≤ q.ct.client ∧ q.ct.client < 4 ∧ q.ct.num ≤ 1099511627776) = true from decide_eq_true hs, Bool.true_and] at HZ
 have HS := Lib.hid hs
 clear hs
 obtain ⟨p, hp⟩ : ∃ p, p = q.op := ⟨_, rfl⟩
 rw [← hp] at q0
 rw [show q.ct.op = p from hp.symm] at HZ
 clear hp
 by_cases hp : p = 1
 case pos =>
  subst hp
  rw [if_pos (by decide)] at HZ
  by_cases hl : 1 ≤ q.lim ∧ q.lim ≤ 32
  case neg =>
   rw [decide_eq_false hl] at CL
   go_enter Try.func77, Try.ntmps77
   go_wp2_with ((with_reducible refine so0 ?_ ?_); (focus rfl))
   refine (CS.out _).mono ?_
   rintro e w2 ⟨rfl, rfl⟩
   clear CS
   go_wp2_with ((with_reducible refine so0 ?_ ?_); (focus rfl))
   refine (CL.out _).mono ?_
   rintro e w2 ⟨rfl, rfl⟩
   clear CL
   go_wp2_with fail
   go_ret
   have e : z = false := by rw [HZ.out]; rw [show decide (1 ≤ q.ct.lim ∧ q.ct.lim ≤ 32) = false from decide_eq_false hl]; rfl
   exact ⟨congrArg (fun b => Ending.returned (.bool b)) e.symm, BW.out⟩
  rw [decide_eq_true hl] at CL
  rw [show decide (1 ≤ q.ct.lim ∧ q.ct.lim ≤ 32) = true from decide_eq_true hl, Bool.true_and] at HZ
  go_enter Try.func77, Try.ntmps77
  go_wp2_with ((with_reducible refine so0 ?_ ?_); (focus rfl))
  refine (CS.out _).mono ?_
  rintro e w2 ⟨rfl, rfl⟩
  clear CS
  go_wp2_with ((with_reducible refine so0 ?_ ?_); (focus rfl))
  refine (CL.out _).mono ?_
  rintro e w2 ⟨rfl, rfl⟩
  clear CL
  go_wp2_with ((with_reducible refine so0 ?_ ?_); (focus rfl))
  refine (CP.out _).mono ?_
  rintro e w2 ⟨rfl, rfl⟩
  clear CP
  go_wp2_with fail
  go_ret
  exact ⟨congrArg (fun b => Ending.returned (.bool b)) HZ.out.symm, BW.out⟩
 by_cases hp : p = 3
 case pos =>
  subst hp
  rw [if_pos (by decide)] at HZ
  by_cases hl : 1 ≤ q.lim ∧ q.lim ≤ 32
  case neg =>
   rw [decide_eq_false hl] at CL
   go_enter Try.func77, Try.ntmps77
   go_wp2_with ((with_reducible refine so0 ?_ ?_); (focus rfl))
   refine (CS.out _).mono ?_
   rintro e w2 ⟨rfl, rfl⟩
   clear CS
   go_wp2_with ((with_reducible refine so0 ?_ ?_); (focus rfl))
   refine (CL.out _).mono ?_
   rintro e w2 ⟨rfl, rfl⟩
   clear CL
   go_wp2_with fail
   go_ret
   have e : z = false := by rw [HZ.out]; rw [show decide (1 ≤ q.ct.lim ∧ q.ct.lim ≤ 32) = false from decide_eq_false hl]; rfl
   exact ⟨congrArg (fun b => Ending.returned (.bool b)) e.symm, BW.out⟩
  rw [decide_eq_true hl] at CL
  rw [show decide (1 ≤ q.ct.lim ∧ q.ct.lim ≤ 32) = true from decide_eq_true hl, Bool.true_and] at HZ
  go_enter Try.func77, Try.ntmps77
  go_wp2_with ((with_reducible refine so0 ?_ ?_); (focus rfl))
  refine (CS.out _).mono ?_
  rintro e w2 ⟨rfl, rfl⟩
  clear CS
  go_wp2_with ((with_reducible refine so0 ?_ ?_); (focus rfl))
  refine (CL.out _).mono ?_
  rintro e w2 ⟨rfl, rfl⟩
  clear CL
  go_wp2_with ((with_reducible refine so0 ?_ ?_); (focus rfl))
  refine (CP.out _).mono ?_
  rintro e w2 ⟨rfl, rfl⟩
  clear CP
  go_wp2_with fail
  go_ret
  exact ⟨congrArg (fun b => Ending.returned (.bool b)) HZ.out.symm, BW.out⟩
 by_cases hp : p = 2
 case pos =>
  subst hp
  rw [if_neg (by decide), if_pos rfl] at HZ
  have LN : Hid (decide (((q.sec.l.length : Nat) : Int) = 0) = decide (q.sec.l = [])) := Lib.hid (by cases q.sec.l <;> simp <;> omega)
  by_cases h1 : q.lim = 0
  case neg =>
   have h1d : decide (q.lim = 0) = false := decide_eq_false h1
   have HH := Lib.hid h1
   go_enter Try.func77, Try.ntmps77
   go_wp2_with ((with_reducible refine so2 [2000+3] ?_ ?_); (focus rfl))
   refine (CS.out _).mono ?_
   rintro e w2 ⟨rfl, rfl⟩
   clear CS
   go_wp2_with ((with_reducible refine so2 [2000+3] ?_ ?_); (focus rfl))
   (with_reducible refine at9 ?_ ?_); (focus go_simp); refine fun K0 hK => wp_eql_i64 _ _ _ rfl 2 1 rfl rfl (hK _ _ ?_)
   clear hK
   rw [show decide ((2 : Int) = 1) = false from rfl]
   go_wp2_with ((with_reducible refine so2 [2000+3] ?_ ?_); (focus rfl))
   (with_reducible refine at9 ?_ ?_); (focus go_simp); refine fun K0 hK => wp_eql_i64 _ _ _ rfl 2 3 rfl rfl (hK _ _ ?_)
   clear hK
   rw [show decide ((2 : Int) = 3) = false from rfl]
   go_wp2_with ((with_reducible refine so2 [2000+3] ?_ ?_); (focus rfl))
   (with_reducible refine at9 ?_ ?_); (focus go_simp); refine fun K0 hK => wp_eql_i64 _ _ _ rfl 2 2 rfl rfl (hK _ _ ?_)
   clear hK
   rw [show decide ((2 : Int) = 2) = true from rfl]
   go_wp2_with ((with_reducible refine so2 [2000+3] ?_ ?_); (focus rfl))
   (with_reducible refine at9 ?_ ?_); (focus go_simp); refine fun K0 hK => wp_eql_i64 _ _ _ rfl q.lim 0 rfl rfl (hK _ _ ?_)
   clear hK
   rw [h1d]
   clear h1d h1
   go_wp2_with fail
   go_ret
   have e : z = false := by rw [HZ.out]; rw [show decide (q.ct.lim = 0) = false from decide_eq_false HH.out]; rfl
   exact ⟨congrArg (fun b => Ending.returned (.bool b)) e.symm, BW.out⟩
  have h1d : decide (q.lim = 0) = true := decide_eq_true h1
  have H1D := Lib.hid h1d
  rw [show decide (q.ct.lim = 0) = true from h1d, Bool.true_and] at HZ
  clear h1d h1
  go_enter Try.func77, Try.ntmps77
  go_wp2_with ((with_reducible refine so2 [2000+3] ?_ ?_); (focus rfl))
  refine (CS.out _).mono ?_
  rintro e w2 ⟨rfl, rfl⟩
  clear CS
  go_wp2_with ((with_reducible refine so2 [2000+3] ?_ ?_); (focus rfl))
  (with_reducible refine at9 ?_ ?_); (focus go_simp); refine fun K0 hK => wp_eql_i64 _ _ _ rfl 2 1 rfl rfl (hK _ _ ?_)
  clear hK
  rw [show decide ((2 : Int) = 1) = false from rfl]
  go_wp2_with ((with_reducible refine so2 [2000+3] ?_ ?_); (focus rfl))
  (with_reducible refine at9 ?_ ?_); (focus go_simp); refine fun K0 hK => wp_eql_i64 _ _ _ rfl 2 3 rfl rfl (hK _ _ ?_)
  clear hK
  rw [show decide ((2 : Int) = 3) = false from rfl]
  go_wp2_with ((with_reducible refine so2 [2000+3] ?_ ?_); (focus rfl))
  (with_reducible refine at9 ?_ ?_); (focus go_simp); refine fun K0 hK => wp_eql_i64 _ _ _ rfl 2 2 rfl rfl (hK _ _ ?_)
  clear hK
  rw [show decide ((2 : Int) = 2) = true from rfl]
  go_wp2_with ((with_reducible refine so2 [2000+3] ?_ ?_); (focus rfl))
  (with_reducible refine at9 ?_ ?_); (focus go_simp); refine fun K0 hK => wp_eql_i64 _ _ _ rfl q.lim 0 rfl rfl (hK _ _ ?_)
  clear hK
  rw [H1D.out]
  clear H1D
  go_wp2_with ((with_reducible refine so2 [2000+3] ?_ ?_); (focus rfl))
  (with_reducible refine at9 ?_ ?_); (focus go_simp); refine fun K0 hK => ld_qown _ _ q rfl rfl A0.out (hK _ _ ?_)
  clear hK
  go_wp2_with ((with_reducible refine so2 [2000+3] ?_ ?_); (focus rfl))
  (with_reducible refine at9 ?_ ?_); (focus go_simp); refine fun K0 hK => wp_build _ _ rfl _ built_z16 (hK _ _ ?_)
  clear hK
  go_wp2_with ((with_reducible refine so2 [2000+3] ?_ ?_); (focus rfl))
  (with_reducible refine at9 ?_ ?_); (focus go_simp); refine fun K0 hK => wp_eql_dig _ _ _ rfl q.own z16 A0.out.1.ownN rfl rfl rfl (hK _ _ ?_)
  clear hK
  by_cases h2 : q.own = z16
  case neg =>
   rw [decide_eq_false h2]
   have HH := Lib.hid h2
   clear h2
   go_wp2_with fail
   go_ret
   have e : z = false := by rw [HZ.out]; rw [show decide (q.ct.own = z16) = false from decide_eq_false HH.out]; rfl
   exact ⟨congrArg (fun b => Ending.returned (.bool b)) e.symm, BW.out⟩
  rw [decide_eq_true h2]
  rw [show decide (q.ct.own = z16) = true from decide_eq_true h2, Bool.true_and] at HZ
  clear h2
  go_wp2_with ((with_reducible refine so2 [2000+3] ?_ ?_); (focus rfl))
  (with_reducible refine at9 ?_ ?_); (focus go_simp); refine fun K0 hK => wp_eql_i64 _ _ _ rfl q.sec.l.length 0 rfl rfl (hK _ _ ?_)
  clear hK
  rw [LN.out]
  go_wp2_with fail
  go_ret
  exact ⟨congrArg (fun b => Ending.returned (.bool b)) HZ.out.symm, BW.out⟩
 by_cases hp : p = 4
 case pos =>
  subst hp
  rw [if_neg (by decide), if_neg (by decide), if_pos rfl] at HZ
  have LN : Hid (decide (((q.sec.l.length : Nat) : Int) = 0) = decide (q.sec.l = [])) := Lib.hid (by cases q.sec.l <;> simp <;> omega)
  by_cases h1 : q.lim = 0
  case neg =>
   have h1d : decide (q.lim = 0) = false := decide_eq_false h1
   have HH := Lib.hid h1
   go_enter Try.func77, Try.ntmps77
   go_wp2_with ((with_reducible refine so2 [2000+3] ?_ ?_); (focus rfl))
   refine (CS.out _).mono ?_
   rintro e w2 ⟨rfl, rfl⟩
   clear CS
   go_wp2_with ((with_reducible refine so2 [2000+3] ?_ ?_); (focus rfl))
   (with_reducible refine at9 ?_ ?_); (focus go_simp); refine fun K0 hK => wp_eql_i64 _ _ _ rfl 4 1 rfl rfl (hK _ _ ?_)
   clear hK
   rw [show decide ((4 : Int) = 1) = false from rfl]
   go_wp2_with ((with_reducible refine so2 [2000+3] ?_ ?_); (focus rfl))
   (with_reducible refine at9 ?_ ?_); (focus go_simp); refine fun K0 hK => wp_eql_i64 _ _ _ rfl 4 3 rfl rfl (hK _ _ ?_)
   clear hK
   rw [show decide ((4 : Int) = 3) = false from rfl]
   go_wp2_with ((with_reducible refine so2 [2000+3] ?_ ?_); (focus rfl))
   (with_reducible refine at9 ?_ ?_); (focus go_simp); refine fun K0 hK => wp_eql_i64 _ _ _ rfl 4 2 rfl rfl (hK _ _ ?_)
   clear hK
   rw [show decide ((4 : Int) = 2) = false from rfl]
   go_wp2_with ((with_reducible refine so2 [2000+3] ?_ ?_); (focus rfl))
   (with_reducible refine at9 ?_ ?_); (focus go_simp); refine fun K0 hK => wp_eql_i64 _ _ _ rfl 4 4 rfl rfl (hK _ _ ?_)
   clear hK
   rw [show decide ((4 : Int) = 4) = true from rfl]
   go_wp2_with ((with_reducible refine so2 [2000+3] ?_ ?_); (focus rfl))
   (with_reducible refine at9 ?_ ?_); (focus go_simp); refine fun K0 hK => wp_eql_i64 _ _ _ rfl q.lim 0 rfl rfl (hK _ _ ?_)
   clear hK
   rw [h1d]
   clear h1d h1
   go_wp2_with fail
   go_ret
   have e : z = false := by rw [HZ.out]; rw [show decide (q.ct.lim = 0) = false from decide_eq_false HH.out]; rfl
   exact ⟨congrArg (fun b => Ending.returned (.bool b)) e.symm, BW.out⟩
  have h1d : decide (q.lim = 0) = true := decide_eq_true h1
  have H1D := Lib.hid h1d
  rw [show decide (q.ct.lim = 0) = true from h1d, Bool.true_and] at HZ
  clear h1d h1
  go_enter Try.func77, Try.ntmps77
  go_wp2_with ((with_reducible refine so2 [2000+3] ?_ ?_); (focus rfl))
  refine (CS.out _).mono ?_
  rintro e w2 ⟨rfl, rfl⟩
  clear CS
  go_wp2_with ((with_reducible refine so2 [2000+3] ?_ ?_); (focus rfl))
  (with_reducible refine at9 ?_ ?_); (focus go_simp); refine fun K0 hK => wp_eql_i64 _ _ _ rfl 4 1 rfl rfl (hK _ _ ?_)
  clear hK
  rw [show decide ((4 : Int) = 1) = false from rfl]
  go_wp2_with ((with_reducible refine so2 [2000+3] ?_ ?_); (focus rfl))
  (with_reducible refine at9 ?_ ?_); (focus go_simp); refine fun K0 hK => wp_eql_i64 _ _ _ rfl 4 3 rfl rfl (hK _ _ ?_)
  clear hK
  rw [show decide ((4 : Int) = 3) = false from rfl]
  go_wp2_with ((with_reducible refine so2 [2000+3] ?_ ?_); (focus rfl))
  (with_reducible refine at9 ?_ ?_); (focus go_simp); refine fun K0 hK => wp_eql_i64 _ _ _ rfl 4 2 rfl rfl (hK _ _ ?_)
  clear hK
  rw [show decide ((4 : Int) = 2) = false from rfl]
  go_wp2_with ((with_reducible refine so2 [2000+3] ?_ ?_); (focus rfl))
  (with_reducible refine at9 ?_ ?_); (focus go_simp); refine fun K0 hK => wp_eql_i64 _ _ _ rfl 4 4 rfl rfl (hK _ _ ?_)
  clear hK
  rw [show decide ((4 : Int) = 4) = true from rfl]
  go_wp2_with ((with_reducible refine so2 [2000+3] ?_ ?_); (focus rfl))
  (with_reducible refine at9 ?_ ?_); (focus go_simp); refine fun K0 hK => wp_eql_i64 _ _ _ rfl q.lim 0 rfl rfl (hK _ _ ?_)
  clear hK
  rw [H1D.out]
  clear H1D
  go_wp2_with ((with_reducible refine so2 [2000+3] ?_ ?_); (focus rfl))
  (with_reducible refine at9 ?_ ?_); (focus go_simp); refine fun K0 hK => ld_qpin _ _ q rfl rfl A0.out (hK _ _ ?_)
  clear hK
  go_wp2_with ((with_reducible refine so2 [2000+3] ?_ ?_); (focus rfl))
  (with_reducible refine at9 ?_ ?_); (focus go_simp); refine fun K0 hK => wp_build _ _ rfl _ built_z16 (hK _ _ ?_)
  clear hK
  go_wp2_with ((with_reducible refine so2 [2000+3] ?_ ?_); (focus rfl))
  (with_reducible refine at9 ?_ ?_); (focus go_simp); refine fun K0 hK => wp_eql_dig _ _ _ rfl q.pin z16 A0.out.1.pinN rfl rfl rfl (hK _ _ ?_)
  clear hK
  by_cases h2 : q.pin = z16
  case neg =>
   rw [decide_eq_false h2]
   have HH := Lib.hid h2
   clear h2
   go_wp2_with fail
   go_ret
   have e : z = false := by rw [HZ.out]; rw [show decide (q.ct.pin = z16) = false from decide_eq_false HH.out]; rfl
   exact ⟨congrArg (fun b => Ending.returned (.bool b)) e.symm, BW.out⟩
  rw [decide_eq_true h2]
  rw [show decide (q.ct.pin = z16) = true from decide_eq_true h2, Bool.true_and] at HZ
  clear h2
  go_wp2_with ((with_reducible refine so2 [2000+3] ?_ ?_); (focus rfl))
  (with_reducible refine at9 ?_ ?_); (focus go_simp); refine fun K0 hK => wp_eql_i64 _ _ _ rfl q.sec.l.length 0 rfl rfl (hK _ _ ?_)
  clear hK
  rw [LN.out]
  go_wp2_with fail
  go_ret
  exact ⟨congrArg (fun b => Ending.returned (.bool b)) HZ.out.symm, BW.out⟩
 have p1 : ¬ p = 1 := by assumption
 have p3 : ¬ p = 3 := by assumption
 have p2 : ¬ p = 2 := by assumption
 have p4 : ¬ p = 4 := by assumption
 rw [if_neg (by rintro (h | h) <;> contradiction), if_neg p2, if_neg p4] at HZ
 have d1 := decide_eq_false p1
 have d2 := decide_eq_false p2
 have d3 := decide_eq_false p3
 have d4 := decide_eq_false p4
 clear p1 p2 p3 p4
 go_enter Try.func77, Try.ntmps77
 go_wp2_with ((with_reducible refine so2 [2000+3] ?_ ?_); (focus rfl))
 refine (CS.out _).mono ?_
 rintro e w2 ⟨rfl, rfl⟩
 clear CS
 go_wp2_with ((with_reducible refine so2 [2000+3] ?_ ?_); (focus rfl))
 (with_reducible refine at9 ?_ ?_); (focus go_simp); refine fun K0 hK => wp_eql_i64 _ _ _ rfl p 1 rfl rfl (hK _ _ ?_)
 clear hK
 rw [d1]
 go_wp2_with ((with_reducible refine so2 [2000+3] ?_ ?_); (focus rfl))
 (with_reducible refine at9 ?_ ?_); (focus go_simp); refine fun K0 hK => wp_eql_i64 _ _ _ rfl p 3 rfl rfl (hK _ _ ?_)
 clear hK
 rw [d3]
 go_wp2_with ((with_reducible refine so2 [2000+3] ?_ ?_); (focus rfl))
 (with_reducible refine at9 ?_ ?_); (focus go_simp); refine fun K0 hK => wp_eql_i64 _ _ _ rfl p 2 rfl rfl (hK _ _ ?_)
 clear hK
 rw [d2]
 go_wp2_with ((with_reducible refine so2 [2000+3] ?_ ?_); (focus rfl))
 (with_reducible refine at9 ?_ ?_); (focus go_simp); refine fun K0 hK => wp_eql_i64 _ _ _ rfl p 4 rfl rfl (hK _ _ ?_)
 clear hK
 rw [d4]
 go_wp2_with fail
 go_ret
 exact ⟨congrArg (fun b => Ending.returned (.bool b)) HZ.out.symm, BW.out⟩
def OwnPost (a : Vt) (w : World) (e : Ending) (w' : World) : Prop := ∃ p : Pt, e = .returned (Vt.V { a with sec := p }) ∧ p.l = a.sec.l ∧ PN w' w.heap.size p ∧ Ex w w'
set_option maxHeartbeats 4000000 in
set_option maxRecDepth 100000 in
theorem ownv_any (a : Vt) (hL : a.sec.l.length ≤ 140737488355328) (w : World) (ha : VI w a) : Calls Try.prog 101 #[a.V] w (OwnPost a w) := by
 have CC := Lib.hid (fun w1 (k : Ex w w1) => bclone_any a.sec hL w1 (ha.ext k).sec)
 obtain ⟨cs, hcs⟩ : ∃ cs, cs = a.C.toArray := ⟨_, rfl⟩
 have OK := Lib.hid ha.ok
 have A0 : Hid (VB ((w.alloc (.cells cs 36)).alloc (.cells zeroVt.C.toArray 36)) w.heap.size a) := Lib.hid ⟨ha.ok, by rw [hcs]; exact (Bk.new rfl _ _).more _⟩
 have Z0 : Hid (VB ((w.alloc (.cells cs 36)).alloc (.cells zeroVt.C.toArray 36)) (w.heap.size + 1) zeroVt) := Lib.hid ⟨zeroVt_ok, Bk.new (by simp) _ _⟩
 have BW : Hid (Ex w ((w.alloc (.cells cs 36)).alloc (.cells zeroVt.C.toArray 36))) := Lib.hid (Ex.trans (Ex.alloc w _) (Ex.alloc _ _))
 rw [show (Calls Try.prog 101 #[a.V] w) = (Calls Try.prog 101 #[.agg cs] w) by rw [hcs]; rfl]
 clear hcs ha
 go_enter Try.func101, Try.ntmps101
 go_wp2_with ((with_reducible refine so2 [1000+25, 25] ?_ ?_); (focus rfl))
 change Stop (wpList _ _ _ _ _ ((w.alloc (.cells cs 36)).alloc (.cells zeroVt.C.toArray 36)))
 generalize hw1 : (w.alloc (.cells cs 36)).alloc (.cells zeroVt.C.toArray 36) = w1 at *
 clear hw1
 obtain ⟨B, hB⟩ : ∃ B, B = w.heap.size := ⟨_, rfl⟩
 rw [← hB] at A0 Z0 ⊢
 have HB := Lib.hid hB
 clear hB
 obtain ⟨a4, a21, a22, a23, a40, a41⟩ := A0.out.cells
 unfold Pt.V at a21 CC
 clear a4 a22 a23 a40 a41
 (with_reducible refine ⟨?_⟩)
 go_wp2_with ((with_reducible refine so2 [1000+25] ?_ ?_); (focus rfl))
 refine (CC.out _ BW.out).mono ?_
 rintro e w2 ⟨p, rfl, hpl, hpi, x2⟩
 have A2 := Lib.hid (A0.out.ext x2)
 have Z2 := Lib.hid (Z0.out.ext x2)
 have X2 := Lib.hid (Ex.trans BW.out x2)
 have HPL := Lib.hid hpl
 have HPI := Lib.hid (hpi.less (show B + 2 ≤ w1.heap.size from Z0.out.lt))
 clear CC x2 a21 A0 Z0 hpl hpi BW
 go_wp2_with ((with_reducible refine so2 [1000+25] ?_ ?_); (focus rfl))
 (with_reducible refine at9 ?_ ?_); (focus go_simp); refine fun K0 hK => st_vsec (by kernel_rfl) _ _ B a p rfl rfl rfl A2.out (fun w3 hd ho => hK _ _ ?_)
 clear hK
 have A3 := Lib.hid hd
 have Z3 := Lib.hid (ho.vb Z2.out (by omega))
 have X3 := Lib.hid (ho.below w.heap.size (by rw [← HB.out]; omega) w X2.out)
 have P3 := Lib.hid (HPI.out.only ho (by omega))
 clear A2 Z2 X2 hd ho HPI
 go_wp2_with ((with_reducible refine so2 [1000+25] ?_ ?_); (focus rfl))
 (with_reducible refine at9 ?_ ?_); (focus go_simp); refine fun K0 hK => ld_v _ _ { a with sec := p } rfl rfl A3.out (hK _ _ ?_)
 clear hK
 go_wp2_with ((with_reducible refine so2 [1000+25] ?_ ?_); (focus rfl))
 (with_reducible refine at9 ?_ ?_); (focus go_simp); refine fun K0 hK => st_v _ _ (B + 1) { a with sec := p } rfl rfl rfl A3.out.1 Z3.out.2 (by rw [List.size_toArray, Vt.len zeroVt_ok]) (fun w4 hd ho => hK _ _ ?_)
 clear hK
 have X4 := ho.below w.heap.size (by rw [← HB.out]; omega) w X3.out
 have P4 := P3.out.only ho (by omega)
 clear ho
 go_wp2_with fail
 exact bodyPost_ret (res_v rfl _ _ (B + 1) rfl { a with sec := p } hd) rfl ⟨p, rfl, HPL.out, P4.less (by rw [← HB.out]; omega), X4⟩
end Go.Proofs.Ytmjfnpmnhehnkaa
