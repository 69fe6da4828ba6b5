/- Vh -/
import Derived.Test.YtmjfnpmnhehnkaaXaf
namespace Go.Proofs.Ytmjfnpmnhehnkaa
open Go.RowKit
theorem Ex.sz {w w' : World} (h : Ex w w') : w.heap.size ≤ w'.heap.size := Below.size h
inductive Ar where
 | any
 | is (x : Value)
 | pn (B : Nat) (l : List UInt8)
 | vx (v : Vt) (l : List UInt8) (B : Nat)
 | qx (q : Qt) (l : List UInt8) (B : Nat)
 | blk (base : Nat) (t : TypeId) (cs : Array Value)
 | emp (base : Nat)
 | intb (k : IntKind) (lo hi : Int)
 | dig (n : Nat)
 | sat (p : Value → Prop)
def Ar.holds : Ar → Value → World → Prop
 | .any, _, _ => True
 | .is x, v, _ => v = x
 | .pn B l, v, w => ∃ p : Pt, v = p.V ∧ p.l = l ∧ PN w B p
 | .vx u l B, v, w => ∃ p : Pt, v = Vt.V { u with sec := p } ∧ p.l = l ∧ PN w B p
 | .qx u l B, v, w => ∃ p : Pt, v = Qt.V { u with sec := p } ∧ p.l = l ∧ PN w B p
 | .blk base t cs, v, w => ∃ g, v = .pointer (some ⟨g, 0, none⟩) ∧ base ≤ g ∧ Bk w g t cs
 | .emp base, v, w => ∃ g, v = .slice (some ⟨g, 0, none⟩) 0 0 ∧ base ≤ g ∧ Bk w g 5 #[]
 | .intb k lo hi, v, _ => ∃ m : Int, v = .int k m ∧ lo ≤ m ∧ m ≤ hi
 | .dig n, v, _ => ∃ d : List UInt8, v = digV d ∧ d.length = n
 | .sat p, v, _ => p v
theorem Ar.stable {s : Ar} {v : Value} {w w' : World} (h : s.holds v w) (k : Ex w w') : s.holds v w' := by
 cases s with
 | any => exact h
 | is x => exact h
 | pn B l => obtain ⟨p, h1, h2, h3⟩ := h; exact ⟨p, h1, h2, h3.ext k⟩
 | vx u l B => obtain ⟨p, h1, h2, h3⟩ := h; exact ⟨p, h1, h2, h3.ext k⟩
 | qx u l B => obtain ⟨p, h1, h2, h3⟩ := h; exact ⟨p, h1, h2, h3.ext k⟩
 | blk base t cs => obtain ⟨g, h1, h2, h3⟩ := h; exact ⟨g, h1, h2, h3.ext k⟩
 | emp base => obtain ⟨g, h1, h2, h3⟩ := h; exact ⟨g, h1, h2, h3.ext k⟩
 | intb k lo hi => exact h
 | dig n => exact h
 | sat p => exact h
def Ar.far (g : Nat) : Ar → Prop
 | .pn B _ => g < B
 | .vx _ _ B => g < B
 | .qx _ _ B => g < B
 | .blk B _ _ => g < B
 | .emp B => g < B
 | _ => True
theorem Ar.only {s : Ar} {v : Value} {w w' : World} {g : Nat} (h : s.holds v w) (ho : Only g w w') (hf : s.far g) : s.holds v w' := by
 cases s with
 | any => exact h
 | is x => exact h
 | pn B l => obtain ⟨p, h1, h2, h3⟩ := h; exact ⟨p, h1, h2, h3.only ho hf⟩
 | vx u l B => obtain ⟨p, h1, h2, h3⟩ := h; exact ⟨p, h1, h2, h3.only ho hf⟩
 | qx u l B => obtain ⟨p, h1, h2, h3⟩ := h; exact ⟨p, h1, h2, h3.only ho hf⟩
 | blk base t cs => obtain ⟨g', h1, h2, h3⟩ := h; exact ⟨g', h1, h2, ho.bk h3 (by have : g < base := hf; omega)⟩
 | emp base => obtain ⟨g', h1, h2, h3⟩ := h; exact ⟨g', h1, h2, ho.bk h3 (by have : g < base := hf; omega)⟩
 | intb k lo hi => exact h
 | dig n => exact h
 | sat p => exact h
def arPhi (T : List Ar) (i : Nat) (v : Value) (w : World) : Prop := (T.getD i .any).holds v w
theorem arPhi_stable (T : List Ar) (i : Nat) (v : Value) (w w' : World) (h : arPhi T i v w) (k : Ex w w') : arPhi T i v w' := Ar.stable h k
theorem own_less {w : World} {B B' : Nat} {v : Value} {l : List UInt8} (h : ownU w B v l) (k : B' ≤ B) : ownU w B' v l := by
 obtain ⟨h1, h2 | ⟨g, cap, cur, h3, h4, r⟩⟩ := h
 ·exact ⟨h1, .inl h2⟩
 exact ⟨h1, .inr ⟨g, cap, cur, h3, by omega, r⟩⟩
theorem wp_app_emp {o : Oper} {a : Act} {w : World} {K : Act → World → Prop} {Q : Exit → Act → World → Prop} (s x : Operand)
  (hop : o.op = .call { callee := .builtin .append, args := #[s, x], argTypes := #[25, 25] }) (B g : Nat) (q : Pt) (hs : a.eval s = .slice (some ⟨g, 0, none⟩) 0 0) (hx : a.eval x = q.V)
  (hB : B ≤ g) (hb : Bk w g 5 #[]) (hBw : B ≤ w.heap.size) (hq : q.In w w.heap.size) (hN : q.l.length ≤ 100000000000000)
  (h : ∀ v' w', ownU w' B v' q.l → Ex w w' → K (a.put o.dst v') w') : o.wp Try.prog a w K Q := by
 obtain ⟨i0, hi0, hz0, hz1, hz2⟩ := info_parts sm_u8
 have key : ∃ v' w', (Builtin.append_ #[25, 25] o.type #[.slice (some ⟨g, 0, none⟩) 0 0, q.V]).run Try.prog w = .ok v' w' ∧ ownU w' B v' q.l ∧ Ex w w' := by
  have ow : ownU w B (.slice (some ⟨g, 0, none⟩) 0 0) [] := ⟨rfl, .inr ⟨g, 0, #[], rfl, hB, hb, Nat.le_refl _, Nat.zero_le _, rfl, rfl⟩⟩
  by_cases hq0 : 0 < q.l.length
  ·obtain ⟨aq, hqa, hqc⟩ := hq.cells hq0
   unfold Pt.V
   rw [hqa]
   obtain ⟨v', w', hrun, r1, r2⟩ := run_append_arg_grows (P := Try.prog) w 25 o.type 5 i0 _ 1 1 Try.underlying25 hi0 hz0 hz1 hz2 rfl (by omega) ⟨g, 0, none⟩ 0 0 [] (by simp) (fun j u hu => by simp at hu) aq q.l.length q.cap (Lib.byteCells q.l) (by simp [Lib.byteCells]) hqc (by omega) (by unfold maxLen; omega) (by omega)
   refine ⟨v', w', hrun, ?_, (Below.refl _ _).grown r2 (Nat.le_refl _) (fun k hk => by cases hk)⟩
   have r1 : ownU w' w.heap.size v' q.l := by
    unfold ownU
    simpa using r1
   exact own_less r1 hBw
  ·have hz : q.l = [] := List.eq_nil_of_length_eq_zero (by omega)
   refine ⟨.slice (some ⟨g, 0, none⟩) 0 0, w, ?_, by rw [hz]; exact ow, Ex.refl _⟩
   unfold Pt.V
   rw [hz]
   cases hqa : q.ad with
   | none =>
    rw [hq.nil hqa]
    exact run_append_owned_none w B 25 o.type 5 i0 1 Try.underlying25 hi0 _ _ _ ow
   | some aq => simp [Builtin.append_, run_underlying Try.underlying25, sizeOf, typeInfo, hi0, Builtin.lenOf, Builtin.firstCells, storeCells, loadCells, loadCellsFrom]
 obtain ⟨v', w', hrun, r1, r2⟩ := key
 unfold Oper.wp
 simp [execOp, hop, resolve, invoke, builtin, hs, hx, hrun, Result.andThen]
 exact h v' w' r1 r2
def freshVt (id : List UInt8) (g : Int) (pin : List UInt8) (lim : Int) (own : List UInt8) : Vt := ⟨id, g, pin, nilB, lim, 0, own, false, false⟩
theorem built_fresh (id : List UInt8) (g : Int) (pin : List UInt8) (p : Pt) (lim : Int) (own : List UInt8) (h1 : id.length = 4) (h2 : pin.length = 16) (h3 : own.length = 16) : Try.prog.built 36 [(0, digV id), (1, .int .u64 g), (2, digV pin), (3, p.V), (4, .int .i64 lim), (6, digV own)] = some (Vt.C { freshVt id g pin lim own with sec := p }).toArray := by
 obtain ⟨a, b, c, d, rfl⟩ := len4 h1
 obtain ⟨_, _, _, _, _, _, _, _, _, _, _, _, _, _, _, _, rfl⟩ := len16 h2
 obtain ⟨_, _, _, _, _, _, _, _, _, _, _, _, _, _, _, _, rfl⟩ := len16 h3
 obtain ⟨ad, cap, l⟩ := p
 kernel_rfl
theorem sum64 {x : Int} (h0 : 0 ≤ x) (h1 : x ≤ 1099511627776) : IntKind.u64.wrap (x + 1) = x + 1 := by
 have : IntKind.wrap .u64 (x + 1) = (x + 1) % 18446744073709551616 := rfl
 rw [this]; omega
set_option maxHeartbeats 4000000 in
set_option maxRecDepth 100000 in
theorem act_any (v : Vt) (q : Qt) (g : Nat) (r : Rt) (w : World) (hv : VN w (g + 1) v) (hq : QI w q) (hr : RB w g r) (hrs : r.sec = nilB) (hL : v.sec.l.length ≤ 64) (hL2 : q.sec.l.length ≤ 64) (ho : q.op = 1 ∨ q.op = 2 ∨ q.op = 3 ∨ q.op = 4)
  (hb : q.op = 2 → 0 ≤ v.used ∧ v.used < v.lim ∧ v.lim ≤ 32) (hgn : v.gen ≤ 1099511627776) :
  Calls Try.prog 116 #[v.V, q.V, .pointer (some ⟨g, 0, none⟩)] w (APost g (actC v.ct q.ct r.ct) w) := by
 have CC := Hi (fun w1 (k : Ex w w1) => bclone_any q.sec (by omega) w1 (hq.ext k).2)
 have CG := Hi (fun w1 (h1 : VN w1 (g + 1) v) (h2 : RB w1 g r) ho => guess_any v q.pin g r w1 hq.1.pinN h1 h2 hrs (by omega) (hb ho))
 have CL := Hi (fun (u : Vt) w1 (k : VI w1 u) => left_any u w1 k)
 have HR := Hi hr
 have HV := Hi hv.vs
 have HQ := Hi hq
 have HLT := Hi hr.lt
 have HOK := Hi hv.1
 have HQK := Hi hq.1
 have HB9 := Hi hgn
 have HRN := Hi hrs
 obtain ⟨Z, hZ⟩ : ∃ Z, Z = actC v.ct q.ct r.ct := ⟨_, rfl⟩
 rw [← hZ]
 have HZ := Hi hZ
 unfold actC at HZ
 clear hZ
 rw [show q.ct.op = q.op from rfl] at HZ
 obtain ⟨cs, hcs⟩ : ∃ cs, cs = v.C.toArray := ⟨_, rfl⟩
 obtain ⟨ds, hds⟩ : ∃ cs, cs = q.C.toArray := ⟨_, rfl⟩
 have A0 : Hid (VB (((w.alloc (.cells cs 36)).alloc (.cells ds 86)).alloc (.cells zeroVt.C.toArray 36)) w.heap.size v) := Hi ⟨hv.1, by rw [hcs]; exact ((Bk.new rfl _ _).more _).more _⟩
 have Q0 : Hid (QB (((w.alloc (.cells cs 36)).alloc (.cells ds 86)).alloc (.cells zeroVt.C.toArray 36)) (w.heap.size + 1) q) := Hi ⟨hq.1, by rw [hds]; exact (Bk.new (by simp) _ _).more _⟩
 have Z0 : Hid (VB (((w.alloc (.cells cs 36)).alloc (.cells ds 86)).alloc (.cells zeroVt.C.toArray 36)) (w.heap.size + 2) zeroVt) := Hi ⟨zeroVt_ok, Bk.new (by simp) _ _⟩
 have BW : Hid (Ex w (((w.alloc (.cells cs 36)).alloc (.cells ds 86)).alloc (.cells zeroVt.C.toArray 36))) := Hi (Ex.trans (Ex.alloc w _) (Ex.trans (Ex.alloc _ _) (Ex.alloc _ _)))
 rw [show (Calls Try.prog 116 #[v.V, q.V, .pointer (some ⟨g, 0, none⟩)] w) = (Calls Try.prog 116 #[.agg cs, .agg ds, .pointer (some ⟨g, 0, none⟩)] w) by rw [hcs, hds]; rfl]
 clear hcs hds hv hr hrs hL hL2 hb hgn hq
 obtain ⟨op, hop⟩ : ∃ op, op = q.op := ⟨_, rfl⟩
 rw [← hop] at ho HZ CG
 have HOP := Hi hop
 clear hop
 rcases ho with rfl | rfl | rfl | rfl
 ·rw [if_neg (by decide), if_neg (by decide)] at HZ
  go_enter Try.func116, Try.ntmps116
  go_wp2_with ((with_reducible refine so3 [3] ?_ ?_); (focus rfl))
  (with_reducible refine ⟨?_⟩)
  change wpList _ _ _ _ _ (((w.alloc (.cells cs 36)).alloc (.cells ds 86)).alloc (.cells zeroVt.C.toArray 36))
  generalize hw1 : (((w.alloc (.cells cs 36)).alloc (.cells ds 86)).alloc (.cells zeroVt.C.toArray 36)) = w1 at *
  clear hw1
  obtain ⟨B, hB⟩ : ∃ B, B = w.heap.size := ⟨_, rfl⟩
  rw [← hB] at A0 Q0 Z0 HLT HV ⊢
  have HB := Hi hB
  clear hB
  have c0 := Q0.out.cells.1
  rw [← HOP.out] at c0
  have R0 := Hi (HR.out.ext BW.out)
  have M0 := Hi (Ex.md (g := g) BW.out (by rw [← HB.out]; have := HLT.out; omega))
  have V0 := Hi (HV.out.ext BW.out)
  go_wp2_with ((with_reducible refine so3 [1000+3] ?_ ?_); (focus rfl))
  clear c0
  have W1 : Hid (B + 3 ≤ w1.heap.size) := Hi Z0.out.lt
  obtain ⟨T, hT⟩ : ∃ T : List Ar, T = [.is (.pointer (some ⟨B + 1, 1, none⟩)), .is (digV q.id), .is (.pointer (some ⟨B, 4, none⟩)), .is (.int .u64 v.gen), .is (.int .u64 (v.gen + 1)), .is (.pointer (some ⟨B + 1, 5, none⟩)), .is (digV q.pin), .is (.pointer (some ⟨B + 1, 21, none⟩)), .is (.slice q.sec.ad q.sec.l.length q.sec.cap), .pn (B + 3) (q.sec.l), .is (.pointer (some ⟨B + 1, 22, none⟩)), .is (.int .i64 q.lim), .is (.pointer (some ⟨B + 1, 23, none⟩)), .is (digV q.own), .vx (freshVt q.id (v.gen + 1) q.pin q.lim q.own) (q.sec.l) (B + 3), .blk (B + 3) 36 zeroVt.C.toArray] := ⟨_, rfl⟩
  refine wp_region_flow 16 (arPhi T) (by kernel_rfl) rfl (by kernel_rfl) (by kernel_rfl) (by kernel_rfl) (arPhi_stable T) (fitB_spec (by kernel_rfl)) ?_ ?_
  ·intro i o hi ho
   have hi' : i = 0 ∨ i = 1 ∨ i = 2 ∨ i = 3 ∨ i = 4 ∨ i = 5 ∨ i = 6 ∨ i = 7 ∨ i = 8 ∨ i = 9 ∨ i = 10 ∨ i = 11 ∨ i = 12 ∨ i = 13 ∨ i = 14 ∨ i = 15 := by omega
   clear hi
   rcases hi' with rfl | rfl | rfl | rfl | rfl | rfl | rfl | rfl | rfl | rfl | rfl | rfl | rfl | rfl | rfl | rfl
   all_goals (simp only [List.getElem?_toArray, List.getElem?_cons_zero, List.getElem?_cons_succ, Option.some.injEq] at ho; subst ho; intro a w2 hx hsz hdep hout)
   ·rw [if_pos (by rfl)]
    intro K hK
    have q4 := hout 4 (outB_spec (by kernel_rfl))
    rw [Array.getD_eq_getD_getElem?] at q4
    clear hsz hdep hout
    go_simp
    exact hK _ _ (Ex.refl _) (by rw [hT]; rfl)
   ·rw [if_pos (by rfl)]
    intro K hK
    obtain ⟨v27, h27, k27⟩ := hdep ⟨0, .data⟩ (by simp) rfl _ rfl
    have q27 := k27 _ rfl
    clear k27
    rw [hT] at h27
    obtain rfl : v27 = .pointer (some ⟨B + 1, 1, none⟩) := h27
    exact ld_qid _ (B + 1) q rfl q27 (Q0.out.ext (Ex.trans (show Ex w1 (World.drew w1) from (Below.refl _ _).drew) hx)) (hK _ _ (Ex.refl _) (by rw [hT]; rfl))
   ·rw [if_pos (by rfl)]
    intro K hK
    have q3 := hout 3 (outB_spec (by kernel_rfl))
    rw [Array.getD_eq_getD_getElem?] at q3
    clear hsz hdep hout
    go_simp
    exact hK _ _ (Ex.refl _) (by rw [hT]; rfl)
   ·rw [if_pos (by rfl)]
    intro K hK
    obtain ⟨v29, h29, k29⟩ := hdep ⟨2, .data⟩ (by simp) rfl _ rfl
    have q29 := k29 _ rfl
    clear k29
    rw [hT] at h29
    obtain rfl : v29 = .pointer (some ⟨B, 4, none⟩) := h29
    have c1 := (A0.out.ext (Ex.trans (show Ex w1 (World.drew w1) from (Below.refl _ _).drew) hx)).cells.1
    rw [Array.getD_eq_getD_getElem?] at q29
    clear hsz hdep hout
    go_simp
    exact hK _ _ (Ex.refl _) (by rw [hT]; rfl)
   ·rw [if_pos (by rfl)]
    intro K hK
    obtain ⟨v30, h30, k30⟩ := hdep ⟨3, .data⟩ (by simp) rfl _ rfl
    have q30 := k30 _ rfl
    clear k30
    rw [hT] at h30
    obtain rfl : v30 = .int .u64 v.gen := h30
    have e1 := sum64 HOK.out.gen0 HB9.out
    rw [Array.getD_eq_getD_getElem?] at q30
    clear hsz hdep hout
    go_simp
    exact hK _ _ (Ex.refl _) (by rw [hT]; rfl)
   ·rw [if_pos (by rfl)]
    intro K hK
    have q4 := hout 4 (outB_spec (by kernel_rfl))
    rw [Array.getD_eq_getD_getElem?] at q4
    clear hsz hdep hout
    go_simp
    exact hK _ _ (Ex.refl _) (by rw [hT]; rfl)
   ·rw [if_pos (by rfl)]
    intro K hK
    obtain ⟨v32, h32, k32⟩ := hdep ⟨5, .data⟩ (by simp) rfl _ rfl
    have q32 := k32 _ rfl
    clear k32
    rw [hT] at h32
    obtain rfl : v32 = .pointer (some ⟨B + 1, 5, none⟩) := h32
    exact ld_qpin _ (B + 1) q rfl q32 (Q0.out.ext (Ex.trans (show Ex w1 (World.drew w1) from (Below.refl _ _).drew) hx)) (hK _ _ (Ex.refl _) (by rw [hT]; rfl))
   ·rw [if_pos (by rfl)]
    intro K hK
    have q4 := hout 4 (outB_spec (by kernel_rfl))
    rw [Array.getD_eq_getD_getElem?] at q4
    clear hsz hdep hout
    go_simp
    exact hK _ _ (Ex.refl _) (by rw [hT]; rfl)
   ·rw [if_pos (by rfl)]
    intro K hK
    obtain ⟨v34, h34, k34⟩ := hdep ⟨7, .data⟩ (by simp) rfl _ rfl
    have q34 := k34 _ rfl
    clear k34
    rw [hT] at h34
    obtain rfl : v34 = .pointer (some ⟨B + 1, 21, none⟩) := h34
    have c1 := (show _ = some (Value.slice q.sec.ad q.sec.l.length q.sec.cap) from (Q0.out.ext (Ex.trans (show Ex w1 (World.drew w1) from (Below.refl _ _).drew) hx)).cells.2.1)
    rw [Array.getD_eq_getD_getElem?] at q34
    clear hsz hdep hout
    go_simp
    exact hK _ _ (Ex.refl _) (by rw [hT]; rfl)
   ·rw [if_pos (by rfl)]
    intro K hK
    obtain ⟨v35, h35, k35⟩ := hdep ⟨8, .data⟩ (by simp) rfl _ rfl
    have q35 := k35 _ rfl
    clear k35
    rw [hT] at h35
    obtain rfl : v35 = .slice q.sec.ad q.sec.l.length q.sec.cap := h35
    rw [Array.getD_eq_getD_getElem?] at q35
    clear hsz hdep hout
    go_simp
    refine (CC.out w2 (Ex.trans BW.out (Ex.trans (show Ex w1 (World.drew w1) from (Below.refl _ _).drew) hx))).mono ?_
    rintro e w3 ⟨p, rfl, hl, hn, x3⟩
    exact hK _ _ x3 (by rw [hT]; exact ⟨p, rfl, hl, hn.less (Nat.le_trans W1.out (Ex.sz (Ex.trans (show Ex w1 (World.drew w1) from (Below.refl _ _).drew) hx)))⟩)
   ·rw [if_pos (by rfl)]
    intro K hK
    have q4 := hout 4 (outB_spec (by kernel_rfl))
    rw [Array.getD_eq_getD_getElem?] at q4
    clear hsz hdep hout
    go_simp
    exact hK _ _ (Ex.refl _) (by rw [hT]; rfl)
   ·rw [if_pos (by rfl)]
    intro K hK
    obtain ⟨v37, h37, k37⟩ := hdep ⟨10, .data⟩ (by simp) rfl _ rfl
    have q37 := k37 _ rfl
    clear k37
    rw [hT] at h37
    obtain rfl : v37 = .pointer (some ⟨B + 1, 22, none⟩) := h37
    have c1 := (Q0.out.ext (Ex.trans (show Ex w1 (World.drew w1) from (Below.refl _ _).drew) hx)).cells.2.2.1
    rw [Array.getD_eq_getD_getElem?] at q37
    clear hsz hdep hout
    go_simp
    exact hK _ _ (Ex.refl _) (by rw [hT]; rfl)
   ·rw [if_pos (by rfl)]
    intro K hK
    have q4 := hout 4 (outB_spec (by kernel_rfl))
    rw [Array.getD_eq_getD_getElem?] at q4
    clear hsz hdep hout
    go_simp
    exact hK _ _ (Ex.refl _) (by rw [hT]; rfl)
   ·rw [if_pos (by rfl)]
    intro K hK
    obtain ⟨v39, h39, k39⟩ := hdep ⟨12, .data⟩ (by simp) rfl _ rfl
    have q39 := k39 _ rfl
    clear k39
    rw [hT] at h39
    obtain rfl : v39 = .pointer (some ⟨B + 1, 23, none⟩) := h39
    exact ld_qown _ (B + 1) q rfl q39 (Q0.out.ext (Ex.trans (show Ex w1 (World.drew w1) from (Below.refl _ _).drew) hx)) (hK _ _ (Ex.refl _) (by rw [hT]; rfl))
   ·rw [if_pos (by rfl)]
    intro K hK
    obtain ⟨v28, h28, k28⟩ := hdep ⟨1, .data⟩ (by simp) rfl _ rfl
    have q28 := k28 _ rfl
    clear k28
    rw [hT] at h28
    obtain rfl : v28 = digV q.id := h28
    obtain ⟨v31, h31, k31⟩ := hdep ⟨4, .data⟩ (by simp) rfl _ rfl
    have q31 := k31 _ rfl
    clear k31
    rw [hT] at h31
    obtain rfl : v31 = .int .u64 (v.gen + 1) := h31
    obtain ⟨v33, h33, k33⟩ := hdep ⟨6, .data⟩ (by simp) rfl _ rfl
    have q33 := k33 _ rfl
    clear k33
    rw [hT] at h33
    obtain rfl : v33 = digV q.pin := h33
    obtain ⟨v36, h36, k36⟩ := hdep ⟨9, .data⟩ (by simp) rfl _ rfl
    have q36 := k36 _ rfl
    clear k36
    rw [hT] at h36
    obtain ⟨p36, rfl, l36, i36⟩ := h36
    obtain ⟨v38, h38, k38⟩ := hdep ⟨11, .data⟩ (by simp) rfl _ rfl
    have q38 := k38 _ rfl
    clear k38
    rw [hT] at h38
    obtain rfl : v38 = .int .i64 q.lim := h38
    obtain ⟨v40, h40, k40⟩ := hdep ⟨13, .data⟩ (by simp) rfl _ rfl
    have q40 := k40 _ rfl
    clear k40
    rw [hT] at h40
    obtain rfl : v40 = digV q.own := h40
    refine wp_build _ _ rfl _ ?_ (hK _ _ (Ex.refl _) (by rw [hT]; exact ⟨p36, rfl, l36, i36⟩))
    simp only [List.map_cons, List.map_nil, show a.eval (.tmp 28) = _ from q28, show a.eval (.tmp 31) = _ from q31, show a.eval (.tmp 33) = _ from q33, show a.eval (.tmp 36) = _ from q36, show a.eval (.tmp 38) = _ from q38, show a.eval (.tmp 40) = _ from q40]
    exact built_fresh _ _ _ _ _ _ HQK.out.idN HQK.out.pinN HQK.out.ownN
   rw [if_pos (by rfl)]
   intro K hK
   clear hsz hdep hout
   go_simp
   exact hK _ _ (Ex.alloc _ _) (by rw [hT]; exact ⟨_, rfl, Nat.le_trans W1.out (Ex.sz (Ex.trans (show Ex w1 (World.drew w1) from (Below.refl _ _).drew) hx)), Bk.new rfl _ _⟩)
  intro a w2 hx hdef hsz hdone hout
  obtain ⟨v8, h8, k8⟩ := hdone 15 _ (by omega) rfl
  have q8 := k8 _ rfl
  clear k8
  rw [hT] at h8
  obtain ⟨g8, rfl, e8, b8⟩ := h8
  obtain ⟨v41, h41, k41⟩ := hdone 14 _ (by omega) rfl
  have q41 := k41 _ rfl
  clear k41
  rw [hT] at h41
  obtain ⟨p41, rfl, l41, i41⟩ := h41
  clear hdone hT
  have hA := arr_range a.tmps 48 hsz
  change a.tmps = #[a.tmps[0]?.getD undef, a.tmps[1]?.getD undef, a.tmps[2]?.getD undef, a.tmps[3]?.getD undef, a.tmps[4]?.getD undef, a.tmps[5]?.getD undef, a.tmps[6]?.getD undef, a.tmps[7]?.getD undef, a.tmps[8]?.getD undef, a.tmps[9]?.getD undef, a.tmps[10]?.getD undef, a.tmps[11]?.getD undef, a.tmps[12]?.getD undef, a.tmps[13]?.getD undef, a.tmps[14]?.getD undef, a.tmps[15]?.getD undef, a.tmps[16]?.getD undef, a.tmps[17]?.getD undef, a.tmps[18]?.getD undef, a.tmps[19]?.getD undef, a.tmps[20]?.getD undef, a.tmps[21]?.getD undef, a.tmps[22]?.getD undef, a.tmps[23]?.getD undef, a.tmps[24]?.getD undef, a.tmps[25]?.getD undef, a.tmps[26]?.getD undef, a.tmps[27]?.getD undef, a.tmps[28]?.getD undef, a.tmps[29]?.getD undef, a.tmps[30]?.getD undef, a.tmps[31]?.getD undef, a.tmps[32]?.getD undef, a.tmps[33]?.getD undef, a.tmps[34]?.getD undef, a.tmps[35]?.getD undef, a.tmps[36]?.getD undef, a.tmps[37]?.getD undef, a.tmps[38]?.getD undef, a.tmps[39]?.getD undef, a.tmps[40]?.getD undef, a.tmps[41]?.getD undef, a.tmps[42]?.getD undef, a.tmps[43]?.getD undef, a.tmps[44]?.getD undef, a.tmps[45]?.getD undef, a.tmps[46]?.getD undef, a.tmps[47]?.getD undef] at hA
  have e0 := hout 0 (fun i o _ h => outB_spec (by kernel_rfl) i o h)
  have e1 := hout 1 (fun i o _ h => outB_spec (by kernel_rfl) i o h)
  have e2 := hout 2 (fun i o _ h => outB_spec (by kernel_rfl) i o h)
  have e3 := hout 3 (fun i o _ h => outB_spec (by kernel_rfl) i o h)
  have e4 := hout 4 (fun i o _ h => outB_spec (by kernel_rfl) i o h)
  have e5 := hout 5 (fun i o _ h => outB_spec (by kernel_rfl) i o h)
  have e6 := hout 6 (fun i o _ h => outB_spec (by kernel_rfl) i o h)
  have e7 := hout 7 (fun i o _ h => outB_spec (by kernel_rfl) i o h)
  have e9 := hout 9 (fun i o _ h => outB_spec (by kernel_rfl) i o h)
  have e10 := hout 10 (fun i o _ h => outB_spec (by kernel_rfl) i o h)
  have e11 := hout 11 (fun i o _ h => outB_spec (by kernel_rfl) i o h)
  have e12 := hout 12 (fun i o _ h => outB_spec (by kernel_rfl) i o h)
  have e13 := hout 13 (fun i o _ h => outB_spec (by kernel_rfl) i o h)
  have e14 := hout 14 (fun i o _ h => outB_spec (by kernel_rfl) i o h)
  have e15 := hout 15 (fun i o _ h => outB_spec (by kernel_rfl) i o h)
  have e16 := hout 16 (fun i o _ h => outB_spec (by kernel_rfl) i o h)
  have e17 := hout 17 (fun i o _ h => outB_spec (by kernel_rfl) i o h)
  have e18 := hout 18 (fun i o _ h => outB_spec (by kernel_rfl) i o h)
  have e19 := hout 19 (fun i o _ h => outB_spec (by kernel_rfl) i o h)
  have e20 := hout 20 (fun i o _ h => outB_spec (by kernel_rfl) i o h)
  have e21 := hout 21 (fun i o _ h => outB_spec (by kernel_rfl) i o h)
  have e22 := hout 22 (fun i o _ h => outB_spec (by kernel_rfl) i o h)
  have e23 := hout 23 (fun i o _ h => outB_spec (by kernel_rfl) i o h)
  have e24 := hout 24 (fun i o _ h => outB_spec (by kernel_rfl) i o h)
  have e25 := hout 25 (fun i o _ h => outB_spec (by kernel_rfl) i o h)
  have e26 := hout 26 (fun i o _ h => outB_spec (by kernel_rfl) i o h)
  have e42 := hout 42 (fun i o _ h => outB_spec (by kernel_rfl) i o h)
  have e43 := hout 43 (fun i o _ h => outB_spec (by kernel_rfl) i o h)
  have e44 := hout 44 (fun i o _ h => outB_spec (by kernel_rfl) i o h)
  have e45 := hout 45 (fun i o _ h => outB_spec (by kernel_rfl) i o h)
  have e46 := hout 46 (fun i o _ h => outB_spec (by kernel_rfl) i o h)
  have e47 := hout 47 (fun i o _ h => outB_spec (by kernel_rfl) i o h)
  simp only [Array.getD_eq_getD_getElem?, List.getElem?_toArray, List.getElem?_cons_zero, List.getElem?_cons_succ, Option.getD_some] at e0 e1 e2 e3 e4 e5 e6 e7 e9 e10 e11 e12 e13 e14 e15 e16 e17 e18 e19 e20 e21 e22 e23 e24 e25 e26 e42 e43 e44 e45 e46 e47
  rw [e0, e1, e2, e3, e4, e5, e6, e7, e9, e10, e11, e12, e13, e14, e15, e16, e17, e18, e19, e20, e21, e22, e23, e24, e25, e26, e42, e43, e44, e45, e46, e47] at hA
  clear e0 e1 e2 e3 e4 e5 e6 e7 e9 e10 e11 e12 e13 e14 e15 e16 e17 e18 e19 e20 e21 e22 e23 e24 e25 e26 e42 e43 e44 e45 e46 e47 hout
  have hds2 : a.defers = [] := hdef
  have ea : a = ⟨a.tmps, a.defers⟩ := rfl
  rw [Array.getD_eq_getD_getElem?] at q8 q41
  rw [hA, hds2, q8, q41] at ea
  clear hA hds2 q8 q41 hdef
  generalize a.tmps[27]?.getD undef = y27 at ea
  generalize a.tmps[28]?.getD undef = y28 at ea
  generalize a.tmps[29]?.getD undef = y29 at ea
  generalize a.tmps[30]?.getD undef = y30 at ea
  generalize a.tmps[31]?.getD undef = y31 at ea
  generalize a.tmps[32]?.getD undef = y32 at ea
  generalize a.tmps[33]?.getD undef = y33 at ea
  generalize a.tmps[34]?.getD undef = y34 at ea
  generalize a.tmps[35]?.getD undef = y35 at ea
  generalize a.tmps[36]?.getD undef = y36 at ea
  generalize a.tmps[37]?.getD undef = y37 at ea
  generalize a.tmps[38]?.getD undef = y38 at ea
  generalize a.tmps[39]?.getD undef = y39 at ea
  generalize a.tmps[40]?.getD undef = y40 at ea
  clear hsz
  subst ea
  have bx : Ex w1 w2 := Ex.trans (show Ex w1 (World.drew w1) from (Below.refl _ _).drew) hx
  unfold wpOp
  simp only [List.getElem?_toArray, List.getElem?_cons_zero, List.getElem?_cons_succ]
  rw [if_pos (by rfl)]
  left
  have HP41 := Hi l41
  have HI41 := Hi i41
  have HE8 := Hi e8
  have HB8 := Hi b8
  clear l41 i41 b8 e8
  replace A0 := Hi (A0.out.ext bx)
  replace Z0 := Hi (Z0.out.ext bx)
  replace V0 := Hi (V0.out.ext bx)
  replace M0 := Hi (M0.out.trans (bx.md (by have := R0.out.lt; omega)))
  replace R0 := Hi (R0.out.ext bx)
  have FOK : Hid (Vt.Ok { freshVt q.id (v.gen + 1) q.pin q.lim q.own with sec := p41 }) := Hi ⟨HQK.out.idN, (by show 0 ≤ v.gen + 1; have := HOK.out.gen0; omega), (by show v.gen + 1 < 18446744073709551616; have := HB9.out; omega), HQK.out.pinN, HQK.out.lim0, HQK.out.lim1, (by show (-9223372036854775808 : Int) ≤ 0; decide), (by show (0 : Int) ≤ 9223372036854775807; decide), HQK.out.ownN⟩
  obtain ⟨NV, hNV⟩ : ∃ NV : Vt, NV = { freshVt q.id (v.gen + 1) q.pin q.lim q.own with sec := p41 } := ⟨_, rfl⟩
  rw [← hNV] at FOK ⊢
  have FCT : Hid (NV.ct = freshC v.ct q.ct) := Hi (by rw [hNV]; unfold freshC Vt.ct; simp only [HP41.out]; rfl)
  have NS : Hid (PN w2 (B + 3) NV.sec) := Hi (by rw [hNV]; exact HI41.out)
  clear hNV HI41 HP41 CG CC
  refine st_v _ _ g8 NV rfl rfl rfl FOK.out HB8.out (by rw [List.size_toArray, Vt.len zeroVt_ok]) (fun w5 hd ho => ?_)
  have HG8 := Hi (show B + 2 < g8 by have := HE8.out; omega)
  have HB8T := Hi HB8.out
  replace Z0 := Hi (ho.vb Z0.out (by have := HG8.out; omega))
  replace R0 := Hi (ho.rb R0.out (by have := HG8.out; have := HLT.out; omega))
  replace NS := Hi (NS.out.onlyT ho HB8.out (by decide))
  replace M0 := Hi (M0.out.new ho (by rw [← HB.out]; have := HG8.out; omega) (by rw [← HB.out]; exact HLT.out))
  have Y0 := Hi hd
  clear HB8 HB8T HE8 hd ho A0 V0
  go_wp2_with ((with_reducible refine so3 [1000+3] ?_ ?_); (focus rfl))
  refine at9 (by go_simp) fun K0 hK => ld_v _ _ NV rfl rfl Y0.out (hK _ _ ?_)
  clear hK
  go_wp2_with ((with_reducible refine so3 [1000+3] ?_ ?_); (focus rfl))
  refine (CL.out NV _ ⟨FOK.out, NS.out.1⟩).mono ?_
  rintro e w7 ⟨rfl, x7⟩
  clear CL
  replace Y0 := Hi (Y0.out.ext x7)
  replace Z0 := Hi (Z0.out.ext x7)
  replace NS := Hi (NS.out.ext x7)
  replace M0 := Hi (M0.out.trans (x7.md (by have := R0.out.lt; omega)))
  replace R0 := Hi (R0.out.ext x7)
  clear x7
  go_wp2_with ((with_reducible refine so3 [1000+3] ?_ ?_); (focus rfl))
  refine at9 (by go_simp) fun K0 hK => st_rleft (by kernel_rfl) _ _ g r NV.ct.left rfl rfl rfl (by have := NV.ct.left_in; omega) (by have := NV.ct.left_in; omega) R0.out (fun w8 hd ho => hK _ _ ?_)
  clear hK
  replace Y0 := Hi (ho.vb Y0.out (by have := HLT.out; have := HG8.out; omega))
  replace Z0 := Hi (ho.vb Z0.out (by have := HLT.out; have := HG8.out; omega))
  replace R0 := Hi hd
  replace NS := Hi (NS.out.only ho (by have := HLT.out; have := HG8.out; omega))
  replace M0 := Hi (M0.out.trans ho.md)
  clear hd ho
  go_wp2_with ((with_reducible refine so3 [1000+3] ?_ ?_); (focus rfl))
  refine at9 (by go_simp) fun K0 hK => ld_v _ _ NV rfl rfl Y0.out (hK _ _ ?_)
  clear hK
  go_wp2_with ((with_reducible refine so3 [1000+3] ?_ ?_); (focus rfl))
  refine at9 (by go_simp) fun K0 hK => st_v _ _ (B + 2) NV rfl rfl rfl FOK.out Z0.out.2 (by rw [List.size_toArray, Vt.len Z0.out.1]) (fun w9 hd ho => hK _ _ ?_)
  clear hK
  replace Y0 := Hi (ho.vb Y0.out (by have := HLT.out; have := HG8.out; omega))
  replace Z0 := Hi hd
  replace R0 := Hi (ho.rb R0.out (by have := HLT.out; have := HG8.out; omega))
  replace NS := Hi (NS.out.only ho (by have := HLT.out; have := HG8.out; omega))
  replace M0 := Hi (M0.out.new ho (by rw [← HB.out]; omega) (by rw [← HB.out]; exact HLT.out))
  clear hd ho
  go_wp2_with fail
  refine bodyPost_ret (res_v2 rfl _ _ (B + 2) rfl NV Z0.out) rfl ⟨NV, _, true, rfl, ?_, R0.out, ⟨FOK.out, NS.out.less (by have := HLT.out; omega)⟩, (by show PN _ _ r.sec; rw [HRN.out]; exact nilB_pn _ _), M0.out⟩
  rw [HZ.out, ← FCT.out]; rfl
 ·rw [if_pos rfl] at HZ
  go_enter Try.func116, Try.ntmps116
  go_wp2_with ((with_reducible refine so3 [3] ?_ ?_); (focus rfl))
  (with_reducible refine ⟨?_⟩)
  change wpList _ _ _ _ _ (((w.alloc (.cells cs 36)).alloc (.cells ds 86)).alloc (.cells zeroVt.C.toArray 36))
  generalize hw1 : (((w.alloc (.cells cs 36)).alloc (.cells ds 86)).alloc (.cells zeroVt.C.toArray 36)) = w1 at *
  clear hw1
  obtain ⟨B, hB⟩ : ∃ B, B = w.heap.size := ⟨_, rfl⟩
  rw [← hB] at A0 Q0 Z0 HLT HV ⊢
  have HB := Hi hB
  clear hB
  have c0 := Q0.out.cells.1
  rw [← HOP.out] at c0
  have R0 := Hi (HR.out.ext BW.out)
  have M0 := Hi (Ex.md (g := g) BW.out (by rw [← HB.out]; have := HLT.out; omega))
  have V0 := Hi (HV.out.ext BW.out)
  go_wp2_with ((with_reducible refine so3 [1000+3] ?_ ?_); (focus rfl))
  refine at9 (by go_simp) fun K0 hK => ld_v _ _ v rfl rfl A0.out (hK _ _ ?_)
  clear hK
  go_wp2_with ((with_reducible refine so3 [1000+3] ?_ ?_); (focus rfl))
  refine at9 (by go_simp) fun K0 hK => ld_qpin _ _ q rfl rfl Q0.out (hK _ _ ?_)
  clear hK
  go_wp2_with ((with_reducible refine so3 [1000+3] ?_ ?_); (focus rfl))
  refine (CG.out w1 V0.out.vn R0.out (by first | rfl | trivial | exact HOP.out.symm)).mono ?_
  rintro e w4 ⟨v', r', b, rfl, hz, hr4, hv4, hp4, m4⟩
  have HZ4 := Hi hz
  replace Z0 := Hi (show VB w4 (B + 2) zeroVt from m4.vb Z0.out (by have := HLT.out; omega))
  have R4 := Hi hr4
  have V4 := Hi hv4
  have P4 := Hi hp4
  have HM4 := Hi (M0.out.trans m4)
  have V4S := Hi hv4.1
  clear hz hr4 hv4 hp4 m4 CG c0 A0 Q0 R0 V0
  go_wp2_with ((with_reducible refine so3 [1000+3] ?_ ?_); (focus rfl))
  refine at9 (by go_simp) fun K0 hK => st_v _ _ (B + 2) v' rfl rfl rfl V4S.out Z0.out.2 (by rw [List.size_toArray, Vt.len Z0.out.1]) (fun w9 hd ho => hK _ _ ?_)
  clear hK
  have V9 : VN w9 (g + 1) v' := ⟨V4S.out, V4.out.2.onlyT ho Z0.out.2 (by decide)⟩
  have R9 := ho.rb R4.out (by have := HLT.out; omega)
  have P9 := P4.out.onlyT ho Z0.out.2 (by decide)
  have M9 := HM4.out.new ho (by rw [← HB.out]; omega) (by rw [← HB.out]; exact HLT.out)
  clear ho
  go_wp2_with fail
  exact bodyPost_ret (res_v2 rfl _ _ (B + 2) rfl v' hd) rfl ⟨v', r', b, rfl, by rw [HZ.out]; exact HZ4.out, R9, V9, P9, M9⟩
 ·rw [if_neg (by decide), if_neg (by decide)] at HZ
  go_enter Try.func116, Try.ntmps116
  go_wp2_with ((with_reducible refine so3 [3] ?_ ?_); (focus rfl))
  (with_reducible refine ⟨?_⟩)
  change wpList _ _ _ _ _ (((w.alloc (.cells cs 36)).alloc (.cells ds 86)).alloc (.cells zeroVt.C.toArray 36))
  generalize hw1 : (((w.alloc (.cells cs 36)).alloc (.cells ds 86)).alloc (.cells zeroVt.C.toArray 36)) = w1 at *
  clear hw1
  obtain ⟨B, hB⟩ : ∃ B, B = w.heap.size := ⟨_, rfl⟩
  rw [← hB] at A0 Q0 Z0 HLT HV ⊢
  have HB := Hi hB
  clear hB
  have c0 := Q0.out.cells.1
  rw [← HOP.out] at c0
  have R0 := Hi (HR.out.ext BW.out)
  have M0 := Hi (Ex.md (g := g) BW.out (by rw [← HB.out]; have := HLT.out; omega))
  have V0 := Hi (HV.out.ext BW.out)
  go_wp2_with ((with_reducible refine so3 [1000+3] ?_ ?_); (focus rfl))
  clear c0
  have W1 : Hid (B + 3 ≤ w1.heap.size) := Hi Z0.out.lt
  obtain ⟨T, hT⟩ : ∃ T : List Ar, T = [.is (.pointer (some ⟨B + 1, 1, none⟩)), .is (digV q.id), .is (.pointer (some ⟨B, 4, none⟩)), .is (.int .u64 v.gen), .is (.int .u64 (v.gen + 1)), .is (.pointer (some ⟨B + 1, 5, none⟩)), .is (digV q.pin), .is (.pointer (some ⟨B + 1, 21, none⟩)), .is (.slice q.sec.ad q.sec.l.length q.sec.cap), .pn (B + 3) (q.sec.l), .is (.pointer (some ⟨B + 1, 22, none⟩)), .is (.int .i64 q.lim), .is (.pointer (some ⟨B + 1, 23, none⟩)), .is (digV q.own), .vx (freshVt q.id (v.gen + 1) q.pin q.lim q.own) (q.sec.l) (B + 3), .blk (B + 3) 36 zeroVt.C.toArray] := ⟨_, rfl⟩
  refine wp_region_flow 16 (arPhi T) (by kernel_rfl) rfl (by kernel_rfl) (by kernel_rfl) (by kernel_rfl) (arPhi_stable T) (fitB_spec (by kernel_rfl)) ?_ ?_
  ·intro i o hi ho
   have hi' : i = 0 ∨ i = 1 ∨ i = 2 ∨ i = 3 ∨ i = 4 ∨ i = 5 ∨ i = 6 ∨ i = 7 ∨ i = 8 ∨ i = 9 ∨ i = 10 ∨ i = 11 ∨ i = 12 ∨ i = 13 ∨ i = 14 ∨ i = 15 := by omega
   clear hi
   rcases hi' with rfl | rfl | rfl | rfl | rfl | rfl | rfl | rfl | rfl | rfl | rfl | rfl | rfl | rfl | rfl | rfl
   all_goals (simp only [List.getElem?_toArray, List.getElem?_cons_zero, List.getElem?_cons_succ, Option.some.injEq] at ho; subst ho; intro a w2 hx hsz hdep hout)
   ·rw [if_pos (by rfl)]
    intro K hK
    have q4 := hout 4 (outB_spec (by kernel_rfl))
    rw [Array.getD_eq_getD_getElem?] at q4
    clear hsz hdep hout
    go_simp
    exact hK _ _ (Ex.refl _) (by rw [hT]; rfl)
   ·rw [if_pos (by rfl)]
    intro K hK
    obtain ⟨v27, h27, k27⟩ := hdep ⟨0, .data⟩ (by simp) rfl _ rfl
    have q27 := k27 _ rfl
    clear k27
    rw [hT] at h27
    obtain rfl : v27 = .pointer (some ⟨B + 1, 1, none⟩) := h27
    exact ld_qid _ (B + 1) q rfl q27 (Q0.out.ext (Ex.trans (show Ex w1 (World.drew w1) from (Below.refl _ _).drew) hx)) (hK _ _ (Ex.refl _) (by rw [hT]; rfl))
   ·rw [if_pos (by rfl)]
    intro K hK
    have q3 := hout 3 (outB_spec (by kernel_rfl))
    rw [Array.getD_eq_getD_getElem?] at q3
    clear hsz hdep hout
    go_simp
    exact hK _ _ (Ex.refl _) (by rw [hT]; rfl)
   ·rw [if_pos (by rfl)]
    intro K hK
    obtain ⟨v29, h29, k29⟩ := hdep ⟨2, .data⟩ (by simp) rfl _ rfl
    have q29 := k29 _ rfl
    clear k29
    rw [hT] at h29
    obtain rfl : v29 = .pointer (some ⟨B, 4, none⟩) := h29
    have c1 := (A0.out.ext (Ex.trans (show Ex w1 (World.drew w1) from (Below.refl _ _).drew) hx)).cells.1
    rw [Array.getD_eq_getD_getElem?] at q29
    clear hsz hdep hout
    go_simp
    exact hK _ _ (Ex.refl _) (by rw [hT]; rfl)
   ·rw [if_pos (by rfl)]
    intro K hK
    obtain ⟨v30, h30, k30⟩ := hdep ⟨3, .data⟩ (by simp) rfl _ rfl
    have q30 := k30 _ rfl
    clear k30
    rw [hT] at h30
    obtain rfl : v30 = .int .u64 v.gen := h30
    have e1 := sum64 HOK.out.gen0 HB9.out
    rw [Array.getD_eq_getD_getElem?] at q30
    clear hsz hdep hout
    go_simp
    exact hK _ _ (Ex.refl _) (by rw [hT]; rfl)
   ·rw [if_pos (by rfl)]
    intro K hK
    have q4 := hout 4 (outB_spec (by kernel_rfl))
    rw [Array.getD_eq_getD_getElem?] at q4
    clear hsz hdep hout
    go_simp
    exact hK _ _ (Ex.refl _) (by rw [hT]; rfl)
   ·rw [if_pos (by rfl)]
    intro K hK
    obtain ⟨v32, h32, k32⟩ := hdep ⟨5, .data⟩ (by simp) rfl _ rfl
    have q32 := k32 _ rfl
    clear k32
    rw [hT] at h32
    obtain rfl : v32 = .pointer (some ⟨B + 1, 5, none⟩) := h32
    exact ld_qpin _ (B + 1) q rfl q32 (Q0.out.ext (Ex.trans (show Ex w1 (World.drew w1) from (Below.refl _ _).drew) hx)) (hK _ _ (Ex.refl _) (by rw [hT]; rfl))
   ·rw [if_pos (by rfl)]
    intro K hK
    have q4 := hout 4 (outB_spec (by kernel_rfl))
    rw [Array.getD_eq_getD_getElem?] at q4
    clear hsz hdep hout
    go_simp
    exact hK _ _ (Ex.refl _) (by rw [hT]; rfl)
   ·rw [if_pos (by rfl)]
    intro K hK
    obtain ⟨v34, h34, k34⟩ := hdep ⟨7, .data⟩ (by simp) rfl _ rfl
    have q34 := k34 _ rfl
    clear k34
    rw [hT] at h34
    obtain rfl : v34 = .pointer (some ⟨B + 1, 21, none⟩) := h34
    have c1 := (show _ = some (Value.slice q.sec.ad q.sec.l.length q.sec.cap) from (Q0.out.ext (Ex.trans (show Ex w1 (World.drew w1) from (Below.refl _ _).drew) hx)).cells.2.1)
    rw [Array.getD_eq_getD_getElem?] at q34
    clear hsz hdep hout
    go_simp
    exact hK _ _ (Ex.refl _) (by rw [hT]; rfl)
   ·rw [if_pos (by rfl)]
    intro K hK
    obtain ⟨v35, h35, k35⟩ := hdep ⟨8, .data⟩ (by simp) rfl _ rfl
    have q35 := k35 _ rfl
    clear k35
    rw [hT] at h35
    obtain rfl : v35 = .slice q.sec.ad q.sec.l.length q.sec.cap := h35
    rw [Array.getD_eq_getD_getElem?] at q35
    clear hsz hdep hout
    go_simp
    refine (CC.out w2 (Ex.trans BW.out (Ex.trans (show Ex w1 (World.drew w1) from (Below.refl _ _).drew) hx))).mono ?_
    rintro e w3 ⟨p, rfl, hl, hn, x3⟩
    exact hK _ _ x3 (by rw [hT]; exact ⟨p, rfl, hl, hn.less (Nat.le_trans W1.out (Ex.sz (Ex.trans (show Ex w1 (World.drew w1) from (Below.refl _ _).drew) hx)))⟩)
   ·rw [if_pos (by rfl)]
    intro K hK
    have q4 := hout 4 (outB_spec (by kernel_rfl))
    rw [Array.getD_eq_getD_getElem?] at q4
    clear hsz hdep hout
    go_simp
    exact hK _ _ (Ex.refl _) (by rw [hT]; rfl)
   ·rw [if_pos (by rfl)]
    intro K hK
    obtain ⟨v37, h37, k37⟩ := hdep ⟨10, .data⟩ (by simp) rfl _ rfl
    have q37 := k37 _ rfl
    clear k37
    rw [hT] at h37
    obtain rfl : v37 = .pointer (some ⟨B + 1, 22, none⟩) := h37
    have c1 := (Q0.out.ext (Ex.trans (show Ex w1 (World.drew w1) from (Below.refl _ _).drew) hx)).cells.2.2.1
    rw [Array.getD_eq_getD_getElem?] at q37
    clear hsz hdep hout
    go_simp
    exact hK _ _ (Ex.refl _) (by rw [hT]; rfl)
   ·rw [if_pos (by rfl)]
    intro K hK
    have q4 := hout 4 (outB_spec (by kernel_rfl))
    rw [Array.getD_eq_getD_getElem?] at q4
    clear hsz hdep hout
    go_simp
    exact hK _ _ (Ex.refl _) (by rw [hT]; rfl)
   ·rw [if_pos (by rfl)]
    intro K hK
    obtain ⟨v39, h39, k39⟩ := hdep ⟨12, .data⟩ (by simp) rfl _ rfl
    have q39 := k39 _ rfl
    clear k39
    rw [hT] at h39
    obtain rfl : v39 = .pointer (some ⟨B + 1, 23, none⟩) := h39
    exact ld_qown _ (B + 1) q rfl q39 (Q0.out.ext (Ex.trans (show Ex w1 (World.drew w1) from (Below.refl _ _).drew) hx)) (hK _ _ (Ex.refl _) (by rw [hT]; rfl))
   ·rw [if_pos (by rfl)]
    intro K hK
    obtain ⟨v28, h28, k28⟩ := hdep ⟨1, .data⟩ (by simp) rfl _ rfl
    have q28 := k28 _ rfl
    clear k28
    rw [hT] at h28
    obtain rfl : v28 = digV q.id := h28
    obtain ⟨v31, h31, k31⟩ := hdep ⟨4, .data⟩ (by simp) rfl _ rfl
    have q31 := k31 _ rfl
    clear k31
    rw [hT] at h31
    obtain rfl : v31 = .int .u64 (v.gen + 1) := h31
    obtain ⟨v33, h33, k33⟩ := hdep ⟨6, .data⟩ (by simp) rfl _ rfl
    have q33 := k33 _ rfl
    clear k33
    rw [hT] at h33
    obtain rfl : v33 = digV q.pin := h33
    obtain ⟨v36, h36, k36⟩ := hdep ⟨9, .data⟩ (by simp) rfl _ rfl
    have q36 := k36 _ rfl
    clear k36
    rw [hT] at h36
    obtain ⟨p36, rfl, l36, i36⟩ := h36
    obtain ⟨v38, h38, k38⟩ := hdep ⟨11, .data⟩ (by simp) rfl _ rfl
    have q38 := k38 _ rfl
    clear k38
    rw [hT] at h38
    obtain rfl : v38 = .int .i64 q.lim := h38
    obtain ⟨v40, h40, k40⟩ := hdep ⟨13, .data⟩ (by simp) rfl _ rfl
    have q40 := k40 _ rfl
    clear k40
    rw [hT] at h40
    obtain rfl : v40 = digV q.own := h40
    refine wp_build _ _ rfl _ ?_ (hK _ _ (Ex.refl _) (by rw [hT]; exact ⟨p36, rfl, l36, i36⟩))
    simp only [List.map_cons, List.map_nil, show a.eval (.tmp 28) = _ from q28, show a.eval (.tmp 31) = _ from q31, show a.eval (.tmp 33) = _ from q33, show a.eval (.tmp 36) = _ from q36, show a.eval (.tmp 38) = _ from q38, show a.eval (.tmp 40) = _ from q40]
    exact built_fresh _ _ _ _ _ _ HQK.out.idN HQK.out.pinN HQK.out.ownN
   rw [if_pos (by rfl)]
   intro K hK
   clear hsz hdep hout
   go_simp
   exact hK _ _ (Ex.alloc _ _) (by rw [hT]; exact ⟨_, rfl, Nat.le_trans W1.out (Ex.sz (Ex.trans (show Ex w1 (World.drew w1) from (Below.refl _ _).drew) hx)), Bk.new rfl _ _⟩)
  intro a w2 hx hdef hsz hdone hout
  obtain ⟨v8, h8, k8⟩ := hdone 15 _ (by omega) rfl
  have q8 := k8 _ rfl
  clear k8
  rw [hT] at h8
  obtain ⟨g8, rfl, e8, b8⟩ := h8
  obtain ⟨v41, h41, k41⟩ := hdone 14 _ (by omega) rfl
  have q41 := k41 _ rfl
  clear k41
  rw [hT] at h41
  obtain ⟨p41, rfl, l41, i41⟩ := h41
  clear hdone hT
  have hA := arr_range a.tmps 48 hsz
  change a.tmps = #[a.tmps[0]?.getD undef, a.tmps[1]?.getD undef, a.tmps[2]?.getD undef, a.tmps[3]?.getD undef, a.tmps[4]?.getD undef, a.tmps[5]?.getD undef, a.tmps[6]?.getD undef, a.tmps[7]?.getD undef, a.tmps[8]?.getD undef, a.tmps[9]?.getD undef, a.tmps[10]?.getD undef, a.tmps[11]?.getD undef, a.tmps[12]?.getD undef, a.tmps[13]?.getD undef, a.tmps[14]?.getD undef, a.tmps[15]?.getD undef, a.tmps[16]?.getD undef, a.tmps[17]?.getD undef, a.tmps[18]?.getD undef, a.tmps[19]?.getD undef, a.tmps[20]?.getD undef, a.tmps[21]?.getD undef, a.tmps[22]?.getD undef, a.tmps[23]?.getD undef, a.tmps[24]?.getD undef, a.tmps[25]?.getD undef, a.tmps[26]?.getD undef, a.tmps[27]?.getD undef, a.tmps[28]?.getD undef, a.tmps[29]?.getD undef, a.tmps[30]?.getD undef, a.tmps[31]?.getD undef, a.tmps[32]?.getD undef, a.tmps[33]?.getD undef, a.tmps[34]?.getD undef, a.tmps[35]?.getD undef, a.tmps[36]?.getD undef, a.tmps[37]?.getD undef, a.tmps[38]?.getD undef, a.tmps[39]?.getD undef, a.tmps[40]?.getD undef, a.tmps[41]?.getD undef, a.tmps[42]?.getD undef, a.tmps[43]?.getD undef, a.tmps[44]?.getD undef, a.tmps[45]?.getD undef, a.tmps[46]?.getD undef, a.tmps[47]?.getD undef] at hA
  have e0 := hout 0 (fun i o _ h => outB_spec (by kernel_rfl) i o h)
  have e1 := hout 1 (fun i o _ h => outB_spec (by kernel_rfl) i o h)
  have e2 := hout 2 (fun i o _ h => outB_spec (by kernel_rfl) i o h)
  have e3 := hout 3 (fun i o _ h => outB_spec (by kernel_rfl) i o h)
  have e4 := hout 4 (fun i o _ h => outB_spec (by kernel_rfl) i o h)
  have e5 := hout 5 (fun i o _ h => outB_spec (by kernel_rfl) i o h)
  have e6 := hout 6 (fun i o _ h => outB_spec (by kernel_rfl) i o h)
  have e7 := hout 7 (fun i o _ h => outB_spec (by kernel_rfl) i o h)
  have e9 := hout 9 (fun i o _ h => outB_spec (by kernel_rfl) i o h)
  have e10 := hout 10 (fun i o _ h => outB_spec (by kernel_rfl) i o h)
  have e11 := hout 11 (fun i o _ h => outB_spec (by kernel_rfl) i o h)
  have e12 := hout 12 (fun i o _ h => outB_spec (by kernel_rfl) i o h)
  have e13 := hout 13 (fun i o _ h => outB_spec (by kernel_rfl) i o h)
  have e14 := hout 14 (fun i o _ h => outB_spec (by kernel_rfl) i o h)
  have e15 := hout 15 (fun i o _ h => outB_spec (by kernel_rfl) i o h)
  have e16 := hout 16 (fun i o _ h => outB_spec (by kernel_rfl) i o h)
  have e17 := hout 17 (fun i o _ h => outB_spec (by kernel_rfl) i o h)
  have e18 := hout 18 (fun i o _ h => outB_spec (by kernel_rfl) i o h)
  have e19 := hout 19 (fun i o _ h => outB_spec (by kernel_rfl) i o h)
  have e20 := hout 20 (fun i o _ h => outB_spec (by kernel_rfl) i o h)
  have e21 := hout 21 (fun i o _ h => outB_spec (by kernel_rfl) i o h)
  have e22 := hout 22 (fun i o _ h => outB_spec (by kernel_rfl) i o h)
  have e23 := hout 23 (fun i o _ h => outB_spec (by kernel_rfl) i o h)
  have e24 := hout 24 (fun i o _ h => outB_spec (by kernel_rfl) i o h)
  have e25 := hout 25 (fun i o _ h => outB_spec (by kernel_rfl) i o h)
  have e26 := hout 26 (fun i o _ h => outB_spec (by kernel_rfl) i o h)
  have e42 := hout 42 (fun i o _ h => outB_spec (by kernel_rfl) i o h)
  have e43 := hout 43 (fun i o _ h => outB_spec (by kernel_rfl) i o h)
  have e44 := hout 44 (fun i o _ h => outB_spec (by kernel_rfl) i o h)
  have e45 := hout 45 (fun i o _ h => outB_spec (by kernel_rfl) i o h)
  have e46 := hout 46 (fun i o _ h => outB_spec (by kernel_rfl) i o h)
  have e47 := hout 47 (fun i o _ h => outB_spec (by kernel_rfl) i o h)
  simp only [Array.getD_eq_getD_getElem?, List.getElem?_toArray, List.getElem?_cons_zero, List.getElem?_cons_succ, Option.getD_some] at e0 e1 e2 e3 e4 e5 e6 e7 e9 e10 e11 e12 e13 e14 e15 e16 e17 e18 e19 e20 e21 e22 e23 e24 e25 e26 e42 e43 e44 e45 e46 e47
  rw [e0, e1, e2, e3, e4, e5, e6, e7, e9, e10, e11, e12, e13, e14, e15, e16, e17, e18, e19, e20, e21, e22, e23, e24, e25, e26, e42, e43, e44, e45, e46, e47] at hA
  clear e0 e1 e2 e3 e4 e5 e6 e7 e9 e10 e11 e12 e13 e14 e15 e16 e17 e18 e19 e20 e21 e22 e23 e24 e25 e26 e42 e43 e44 e45 e46 e47 hout
  have hds2 : a.defers = [] := hdef
  have ea : a = ⟨a.tmps, a.defers⟩ := rfl
  rw [Array.getD_eq_getD_getElem?] at q8 q41
  rw [hA, hds2, q8, q41] at ea
  clear hA hds2 q8 q41 hdef
  generalize a.tmps[27]?.getD undef = y27 at ea
  generalize a.tmps[28]?.getD undef = y28 at ea
  generalize a.tmps[29]?.getD undef = y29 at ea
  generalize a.tmps[30]?.getD undef = y30 at ea
  generalize a.tmps[31]?.getD undef = y31 at ea
  generalize a.tmps[32]?.getD undef = y32 at ea
  generalize a.tmps[33]?.getD undef = y33 at ea
  generalize a.tmps[34]?.getD undef = y34 at ea
  generalize a.tmps[35]?.getD undef = y35 at ea
  generalize a.tmps[36]?.getD undef = y36 at ea
  generalize a.tmps[37]?.getD undef = y37 at ea
  generalize a.tmps[38]?.getD undef = y38 at ea
  generalize a.tmps[39]?.getD undef = y39 at ea
  generalize a.tmps[40]?.getD undef = y40 at ea
  clear hsz
  subst ea
  have bx : Ex w1 w2 := Ex.trans (show Ex w1 (World.drew w1) from (Below.refl _ _).drew) hx
  unfold wpOp
  simp only [List.getElem?_toArray, List.getElem?_cons_zero, List.getElem?_cons_succ]
  rw [if_pos (by rfl)]
  left
  have HP41 := Hi l41
  have HI41 := Hi i41
  have HE8 := Hi e8
  have HB8 := Hi b8
  clear l41 i41 b8 e8
  replace A0 := Hi (A0.out.ext bx)
  replace Z0 := Hi (Z0.out.ext bx)
  replace V0 := Hi (V0.out.ext bx)
  replace M0 := Hi (M0.out.trans (bx.md (by have := R0.out.lt; omega)))
  replace R0 := Hi (R0.out.ext bx)
  have FOK : Hid (Vt.Ok { freshVt q.id (v.gen + 1) q.pin q.lim q.own with sec := p41 }) := Hi ⟨HQK.out.idN, (by show 0 ≤ v.gen + 1; have := HOK.out.gen0; omega), (by show v.gen + 1 < 18446744073709551616; have := HB9.out; omega), HQK.out.pinN, HQK.out.lim0, HQK.out.lim1, (by show (-9223372036854775808 : Int) ≤ 0; decide), (by show (0 : Int) ≤ 9223372036854775807; decide), HQK.out.ownN⟩
  obtain ⟨NV, hNV⟩ : ∃ NV : Vt, NV = { freshVt q.id (v.gen + 1) q.pin q.lim q.own with sec := p41 } := ⟨_, rfl⟩
  rw [← hNV] at FOK ⊢
  have FCT : Hid (NV.ct = freshC v.ct q.ct) := Hi (by rw [hNV]; unfold freshC Vt.ct; simp only [HP41.out]; rfl)
  have NS : Hid (PN w2 (B + 3) NV.sec) := Hi (by rw [hNV]; exact HI41.out)
  clear hNV HI41 HP41 CG CC
  refine st_v _ _ g8 NV rfl rfl rfl FOK.out HB8.out (by rw [List.size_toArray, Vt.len zeroVt_ok]) (fun w5 hd ho => ?_)
  have HG8 := Hi (show B + 2 < g8 by have := HE8.out; omega)
  have HB8T := Hi HB8.out
  replace Z0 := Hi (ho.vb Z0.out (by have := HG8.out; omega))
  replace R0 := Hi (ho.rb R0.out (by have := HG8.out; have := HLT.out; omega))
  replace NS := Hi (NS.out.onlyT ho HB8.out (by decide))
  replace M0 := Hi (M0.out.new ho (by rw [← HB.out]; have := HG8.out; omega) (by rw [← HB.out]; exact HLT.out))
  have Y0 := Hi hd
  clear HB8 HB8T HE8 hd ho A0 V0
  go_wp2_with ((with_reducible refine so3 [1000+3] ?_ ?_); (focus rfl))
  refine at9 (by go_simp) fun K0 hK => ld_v _ _ NV rfl rfl Y0.out (hK _ _ ?_)
  clear hK
  go_wp2_with ((with_reducible refine so3 [1000+3] ?_ ?_); (focus rfl))
  refine (CL.out NV _ ⟨FOK.out, NS.out.1⟩).mono ?_
  rintro e w7 ⟨rfl, x7⟩
  clear CL
  replace Y0 := Hi (Y0.out.ext x7)
  replace Z0 := Hi (Z0.out.ext x7)
  replace NS := Hi (NS.out.ext x7)
  replace M0 := Hi (M0.out.trans (x7.md (by have := R0.out.lt; omega)))
  replace R0 := Hi (R0.out.ext x7)
  clear x7
  go_wp2_with ((with_reducible refine so3 [1000+3] ?_ ?_); (focus rfl))
  refine at9 (by go_simp) fun K0 hK => st_rleft (by kernel_rfl) _ _ g r NV.ct.left rfl rfl rfl (by have := NV.ct.left_in; omega) (by have := NV.ct.left_in; omega) R0.out (fun w8 hd ho => hK _ _ ?_)
  clear hK
  replace Y0 := Hi (ho.vb Y0.out (by have := HLT.out; have := HG8.out; omega))
  replace Z0 := Hi (ho.vb Z0.out (by have := HLT.out; have := HG8.out; omega))
  replace R0 := Hi hd
  replace NS := Hi (NS.out.only ho (by have := HLT.out; have := HG8.out; omega))
  replace M0 := Hi (M0.out.trans ho.md)
  clear hd ho
  go_wp2_with ((with_reducible refine so3 [1000+3] ?_ ?_); (focus rfl))
  refine at9 (by go_simp) fun K0 hK => ld_v _ _ NV rfl rfl Y0.out (hK _ _ ?_)
  clear hK
  go_wp2_with ((with_reducible refine so3 [1000+3] ?_ ?_); (focus rfl))
  refine at9 (by go_simp) fun K0 hK => st_v _ _ (B + 2) NV rfl rfl rfl FOK.out Z0.out.2 (by rw [List.size_toArray, Vt.len Z0.out.1]) (fun w9 hd ho => hK _ _ ?_)
  clear hK
  replace Y0 := Hi (ho.vb Y0.out (by have := HLT.out; have := HG8.out; omega))
  replace Z0 := Hi hd
  replace R0 := Hi (ho.rb R0.out (by have := HLT.out; have := HG8.out; omega))
  replace NS := Hi (NS.out.only ho (by have := HLT.out; have := HG8.out; omega))
  replace M0 := Hi (M0.out.new ho (by rw [← HB.out]; omega) (by rw [← HB.out]; exact HLT.out))
  clear hd ho
  go_wp2_with fail
  refine bodyPost_ret (res_v2 rfl _ _ (B + 2) rfl NV Z0.out) rfl ⟨NV, _, true, rfl, ?_, R0.out, ⟨FOK.out, NS.out.less (by have := HLT.out; omega)⟩, (by show PN _ _ r.sec; rw [HRN.out]; exact nilB_pn _ _), M0.out⟩
  rw [HZ.out, ← FCT.out]; rfl
 rw [if_neg (by decide), if_pos rfl] at HZ
 go_enter Try.func116, Try.ntmps116
 go_wp2_with ((with_reducible refine so3 [3] ?_ ?_); (focus rfl))
 (with_reducible refine ⟨?_⟩)
 change wpList _ _ _ _ _ (((w.alloc (.cells cs 36)).alloc (.cells ds 86)).alloc (.cells zeroVt.C.toArray 36))
 generalize hw1 : (((w.alloc (.cells cs 36)).alloc (.cells ds 86)).alloc (.cells zeroVt.C.toArray 36)) = w1 at *
 clear hw1
 obtain ⟨B, hB⟩ : ∃ B, B = w.heap.size := ⟨_, rfl⟩
 rw [← hB] at A0 Q0 Z0 HLT HV ⊢
 have HB := Hi hB
 clear hB
 have c0 := Q0.out.cells.1
 rw [← HOP.out] at c0
 have R0 := Hi (HR.out.ext BW.out)
 have M0 := Hi (Ex.md (g := g) BW.out (by rw [← HB.out]; have := HLT.out; omega))
 have V0 := Hi (HV.out.ext BW.out)
 obtain ⟨a4, a21, a22, a23, a40, a41⟩ := A0.out.cells
 go_wp2_with ((with_reducible refine so3 [1000+3] ?_ ?_); (focus rfl))
 refine at9 (by go_simp) fun K0 hK => ld_vid _ _ v rfl rfl A0.out (hK _ _ ?_)
 clear hK
 go_wp2_with ((with_reducible refine so3 [1000+3] ?_ ?_); (focus rfl))
 refine at9 (by go_simp) fun K0 hK => wp_build _ _ rfl _ (built_gone3 v.id v.gen HOK.out.idN) (hK _ _ ?_)
 clear hK
 go_wp2_with ((with_reducible refine so3 [1000+3] ?_ ?_); (focus rfl))
 refine at9 (by go_simp) fun K0 hK => st_v _ _ (B + 2) (goneVt v.id v.gen false) rfl rfl rfl (goneVt_ok HOK.out.idN HOK.out.gen0 HOK.out.gen1) Z0.out.2 (by rw [List.size_toArray, Vt.len Z0.out.1]) (fun w9 hd ho => hK _ _ ?_)
 clear hK
 have R9 := ho.rb R0.out (by have := HLT.out; omega)
 have M9 := M0.out.new ho (by rw [← HB.out]; omega) (by rw [← HB.out]; exact HLT.out)
 clear ho a4 a21 a22 a23 a40 a41
 go_wp2_with fail
 exact bodyPost_ret (res_v2 rfl _ _ (B + 2) rfl (goneVt v.id v.gen false) hd) rfl ⟨goneVt v.id v.gen false, r, true, rfl, by rw [HZ.out]; rfl, R9, ⟨hd.1, nilB_pn _ _⟩, (by rw [HRN.out]; exact nilB_pn _ _), M9⟩
end Go.Proofs.Ytmjfnpmnhehnkaa
