/- Ca, Cb, Cd, Ce, FlX -/
import Derived.Test.YtopamplmpfndlaaEac
import Derived.Test.YtopamplmpfndlaaEba
set_option maxRecDepth 100000
set_option maxHeartbeats 16000000
namespace Go.Proofs.Ytopamplmpfndlaa.Cl
open Go.RowKit
def isApp : Op → Bool
 | .call { callee := .builtin .append, .. } => true
 | _ => false
theorem so5 {P : Program} {ops : Array Oper} {rest : List Oper} {a : Act} {w : World} {Q : Exit → Act → World → Prop} {o : Oper} (h : (big o.op || bld o.op || beq o.op || isApp o.op) = true) (k : Stop (wpList P ops Q (o :: rest) a w)) : wpList P ops Q (o :: rest) a w := k.go
theorem lit1_in (w : World) (E : Int) : (Pt.mk (some ⟨w.heap.size, 0, none⟩) 1 [Sm.by8 E]).In (w.alloc (.cells #[.int .u8 (E % 256)] 5)) (w.alloc (.cells #[.int .u8 (E % 256)] 5)).heap.size := by
 have h : Bk (w.alloc (.cells #[.int .u8 (E % 256)] 5)) w.heap.size 5 (Lib.byteCells [Sm.by8 E]).toArray := by rw [Sm.by8_cells]; exact Bk.new rfl _ _
 exact bk_pt h
theorem ownU_ex {w w' : World} {B : Nat} {v : Value} {l : List UInt8} (k : Ex w w') (h : ownU w B v l) : ownU w' B v l := k.row h
theorem ownU_less {w : World} {B B' : Nat} {v : Value} {l : List UInt8} (h : ownU w B v l) (k : B' ≤ B) : ownU w B' v l := ⟨h.1, h.2.imp id fun ⟨g, cap, cur, a1, a2, a3⟩ => ⟨g, cap, cur, a1, Nat.le_trans k a2, a3⟩⟩
theorem ownU_nil (w : World) (B : Nat) : ownU w B (.slice none 0 0) [] := World.ownsRow_nil w B 5 1
theorem lit_own (w : World) (C : Array Value) (l : List UInt8) (h : C = (Lib.byteCells l).toArray) (hl : l.length ≤ 1000) : ownU (w.alloc (.cells C 5)) w.heap.size (.slice (some ⟨w.heap.size, 0, none⟩) l.length l.length) l := by
 subst h
 have h := World.ownsRow_lit (base := w.heap.size) (e := 5) (size := 1) w (Lib.byteCells l).toArray l.length (Nat.le_refl _) (by unfold maxLen; omega) (by rw [List.size_toArray, byteCells_len]; omega)
 exact h
def RowPost (l : List UInt8) (w : World) (e : Ending) (w' : World) : Prop := ∃ v, e = .returned v ∧ ownU w' w.heap.size v l ∧ Ex w w'
def AppPost (B : Nat) (l : List UInt8) (w : World) (e : Ending) (w' : World) : Prop := ∃ v, e = .returned v ∧ ownU w' B v l ∧ Kt [5] B w w'
theorem RowPost.pt {l : List UInt8} {w : World} {e : Ending} {w' : World} (h : RowPost l w e w') : PtPost l w e w' := by
 obtain ⟨v, rfl, h1, h2⟩ := h
 obtain ⟨p, rfl, h3, h4, _⟩ := own_pt h1
 exact ⟨p, rfl, h3, h4, h2⟩
theorem num_row (n : Int) (h0 : 0 ≤ n) (h1 : n < 18446744073709551616) (w : World) : Calls Try.prog 77 #[.int .u64 n] w (RowPost (Sm.numL n) w) :=
 (Sm.number_any n h0 h1 w).mono fun e w' ⟨he, hb, hx⟩ => ⟨_, he, Sm.own_num n hb, hx⟩
theorem rnum_row (n : Int) (h0 : 0 ≤ n) (h1 : n < 18446744073709551616) (w : World) : Calls Try.prog 59 #[.int .u64 n] w (RowPost (Sm.numL n) w) :=
 (Sm.rnumber_any n h0 h1 w).mono fun e w' ⟨he, hb, hx⟩ => ⟨_, he, Sm.own_num n hb, hx⟩
theorem Kt.pt {B : Nat} {w w' : World} {p : Pt} (h : p.In w B) (k : Kt [5] B w w') : p.In w' B := h.keep k.below
theorem putsec_any (B : Nat) (v : Value) (l : List UInt8) (p : Pt) (w : World) (hown : ownU w B v l) (hB : B ≤ w.heap.size) (hp : p.In w B) (hl : l.length ≤ 1000) (hm : p.l.length ≤ 1000) :
  Calls Try.prog 144 #[v, p.V] w (AppPost B (l ++ (Sm.by8 p.l.length :: p.l)) w) := by
 obtain ⟨n, hn⟩ : ∃ n, n = p.l.length := ⟨_, rfl⟩
 have hpv : p.V = .slice p.ad n p.cap := by unfold Pt.V; rw [hn]
 have HPV := Hi hpv
 have HN := Hi hn
 have HO := Hi hown
 have HP := Hi hp
 have hn2 : n ≤ 1000 := by omega
 rw [hpv]
 clear hpv hn hown hp hm
 go_enter Try.func144, Try.ntmps144
 go_wp2_with ((with_reducible refine so5 ?_ ?_); (focus rfl))
 (with_reducible refine ⟨?_⟩)
 change wpList _ _ _ _ _ (w.alloc (.cells #[.int .u8 ((n : Int) % 256)] 5))
 have I1 := Hi (lit1_in w n)
 have O1 := Hi (ownU_ex (Ex.alloc w (.cells #[.int .u8 ((n : Int) % 256)] 5)) HO.out)
 have K1 : Hid (Kt [5] B w (w.alloc (.cells #[.int .u8 ((n : Int) % 256)] 5))) := Hi ((Ex.alloc _ _).kt hB)
 obtain ⟨g, hg⟩ : ∃ g, g = w.heap.size := ⟨_, rfl⟩
 rw [← hg] at I1 ⊢
 clear hg
 generalize w.alloc (.cells #[.int .u8 ((n : Int) % 256)] 5) = w1 at I1 O1 K1 ⊢
 have hB1 : B ≤ w1.heap.size := Nat.le_trans hB K1.out.size
 clear HO
 (with_reducible refine at_any ?_ ?_); (focus go_simp); refine fun K0 hK => wp_cat (.tmp 5) (.tmp 9) rfl B v _ rfl O1.out hB1 ⟨some ⟨g, 0, none⟩, 1, [Sm.by8 n]⟩ rfl I1.out (by have := hl; simp; omega) (fun v9 w9 r1 g1 l1 => hK _ _ ?_)
 clear hK
 have K2 := Hi (K1.out.trans (Kt.grown O1.out g1 hB1))
 have O2 := Hi r1
 have hB2 : B ≤ w9.heap.size := Nat.le_trans hB K2.out.size
 clear K1 O1 I1 r1 g1 l1 hB1
 go_wp2_with ((with_reducible refine so5 ?_ ?_); (focus rfl))
 (with_reducible refine ⟨?_⟩)
 (with_reducible refine at_any ?_ ?_); (focus go_simp); refine fun K0 hK => wp_cat (.tmp 11) (.tmp 12) rfl B v9 _ rfl O2.out hB2 p HPV.out.symm (((HP.out.keep K2.out.below)).more hB2) (by rw [← HN.out]; simp; omega) (fun v8 w8 r1 g1 l1 => hK _ _ ?_)
 clear hK
 have K3 := Hi (K2.out.trans (Kt.grown O2.out g1 hB2))
 have O3 := Hi r1
 clear K2 O2 r1 g1 l1
 go_wp2_with fail
 go_ret
 exact ⟨v8, rfl, by rw [← HN.out]; simpa using O3.out, K3.out⟩
end Go.Proofs.Ytopamplmpfndlaa.Cl
namespace Go.Proofs.Ytopamplmpfndlaa.Cl
open Go.RowKit
theorem bk_part {w : World} {g : Nat} {t : TypeId} {C : List Value} (h : Bk w g t C.toArray) (o : Nat) (l : List UInt8) (hd : (C.drop o).take (Lib.byteCells l).length = Lib.byteCells l) : (Pt.mk (some ⟨g, o, none⟩) l.length l).In w w.heap.size := by
 refine ⟨Nat.le_refl _, (fun h => by cases h), fun _ => ⟨g, o, rfl, h.lt, fun i hi => ?_⟩⟩
 have hi : i < l.length := hi
 have h1 : ((C.drop o).take (Lib.byteCells l).length)[i]? = (Lib.byteCells l)[i]? := by rw [hd]
 rw [List.getElem?_take, if_pos (by rw [byteCells_len]; exact hi), List.getElem?_drop, byteCells_get l i hi] at h1
 rw [h.cell, List.getElem?_toArray, h1]
 simp [List.getD, hi]
theorem QB.kt {w w' : World} {g B : Nat} {q : Qt} (h : QB w g q) (k : Kt [5] B w w') : QB w' g q := ⟨h.1, k.bk h.2 (by decide)⟩
theorem RB.kt {w w' : World} {g B : Nat} {q : Rt} (h : RB w g q) (k : Kt [5] B w w') : RB w' g q := ⟨h.1, k.bk h.2 (by decide)⟩
theorem numL_len (n : Int) : (Sm.numL n).length = 8 := rfl
def reqB (c : Qc) : List UInt8 := [Sm.by8 c.op] ++ c.id ++ c.pin ++ [Sm.by8 c.lim] ++ c.own ++ c.key ++ [Sm.by8 c.client] ++ Sm.numL c.num ++ (Sm.by8 c.sec.length :: c.sec)
def repB (c : Rc) : List UInt8 := [Sm.by8 c.why] ++ c.id ++ Sm.numL c.gen ++ [Sm.by8 c.left, Sm.by8 c.client] ++ Sm.numL c.num ++ (Sm.by8 c.sec.length :: c.sec)
theorem putreq_any (q : Qt) (w : World) (hq : QI w q) (hm : q.sec.l.length ≤ 1000) : Calls Try.prog 104 #[.slice none 0 0, q.V] w (RowPost (reqB q.ct) w) := by
 obtain ⟨ds, hds⟩ : ∃ ds, ds = q.C.toArray := ⟨_, rfl⟩
 have Q0 : Hid (QB (w.alloc (.cells ds 47)) w.heap.size q) := Hi ⟨hq.1, by rw [hds]; exact Bk.new rfl _ _⟩
 have KT : Hid (Kt [5] w.heap.size w (w.alloc (.cells ds 47))) := Hi ((Ex.alloc _ _).kt (Nat.le_refl _))
 have O0 : Hid (ownU (w.alloc (.cells ds 47)) w.heap.size (.slice none 0 0) []) := Hi (ownU_nil _ _)
 have HS := Hi hq.2
 have HM := Hi hm
 obtain ⟨B, hB⟩ : ∃ B, B = w.heap.size := ⟨_, rfl⟩
 have IDN := Hi hq.1.idN
 have PINN := Hi hq.1.pinN
 have OWNN := Hi hq.1.ownN
 have KEYN := Hi hq.1.keyN
 have N0 := Hi hq.1.num0
 have N1 := Hi hq.1.num1
 have HG : Hid (reqB q.ct = [Sm.by8 q.op] ++ q.id ++ q.pin ++ [Sm.by8 q.lim] ++ q.own ++ q.key ++ [Sm.by8 q.client] ++ Sm.numL q.num ++ (Sm.by8 q.sec.l.length :: q.sec.l)) := Hi rfl
 rw [show (Calls Try.prog 104 #[.slice none 0 0, q.V] w) = (Calls Try.prog 104 #[.slice none 0 0, .agg ds] w) by rw [hds]; rfl, HG.out]
 clear hds hq hm
 have hB1 : B ≤ (w.alloc (.cells ds 47)).heap.size := by rw [hB]; exact (Ex.alloc _ _).size
 go_enter Try.func104, Try.ntmps104
 go_wp2_with ((with_reducible refine so4 [3] ?_ ?_); (focus rfl))
 (with_reducible refine ⟨?_⟩)
 change wpList _ _ _ _ _ (w.alloc (.cells ds 47))
 generalize (w.alloc (.cells ds 47)) = z0 at Q0 KT O0 hB1 ⊢
 rw [← hB] at Q0 KT O0 HS ⊢
 have HBs := Hi hB
 clear hB
 obtain ⟨e0, e21, e22, e55, e56⟩ := Q0.out.cells
 go_wp2_with ((with_reducible refine so5 ?_ ?_); (focus rfl))
 (with_reducible refine ⟨?_⟩)
 change wpList _ _ _ _ _ (z0.alloc (.cells #[.int .u8 (q.op % 256)] 5))
 have I1 := Hi (lit1_in z0 q.op)
 have x1 : Ex z0 (z0.alloc (.cells #[.int .u8 (q.op % 256)] 5)) := Ex.alloc _ _
 obtain ⟨gl, hgl⟩ : ∃ g, g = z0.heap.size := ⟨_, rfl⟩
 rw [← hgl] at I1 ⊢
 clear hgl
 replace KT := Hi (KT.out.trans (x1.kt hB1))
 replace Q0 := Hi (Q0.out.ext x1)
 replace O0 := Hi (ownU_ex x1 O0.out)
 replace hB1 := Nat.le_trans hB1 (Below.size x1)
 clear x1 e0 e21 e22 e55 e56
 generalize (z0.alloc (.cells #[.int .u8 (q.op % 256)] 5)) = z1 at I1 KT Q0 O0 hB1 ⊢
 (with_reducible refine at_any ?_ ?_); (focus go_simp); refine fun K0 hK => wp_cat (.tmp 5) (.tmp 9) rfl B (.slice none 0 0) _ rfl O0.out hB1 ⟨some ⟨gl, 0, none⟩, 1, [Sm.by8 q.op]⟩ rfl I1.out (by simp only [List.length_append, List.length_cons, List.length_nil, IDN.out, PINN.out, OWNN.out, KEYN.out, numL_len]; omega) (fun v1 w1 r1 g1 l1 => hK _ _ ?_)
 clear hK
 clear I1
 replace KT := Hi (KT.out.trans (Kt.grown O0.out g1 hB1))
 replace Q0 := Hi (QB.kt Q0.out (Kt.grown O0.out g1 hB1))
 replace O0 := Hi r1
 replace hB1 : B ≤ w1.heap.size := Nat.le_trans hB1 g1.size
 clear r1 g1 l1
 obtain ⟨e0, e21, e22, e55, e56⟩ := Q0.out.cells
 go_wp2_with ((with_reducible refine so5 ?_ ?_); (focus rfl))
 clear e0 e21 e22 e55 e56
 (with_reducible refine ⟨?_⟩)
 (with_reducible refine at_any ?_ ?_); (focus go_simp); refine fun K0 hK => wp_cat (.tmp 11) (.tmp 13) rfl B (v1) _ rfl O0.out hB1 ⟨some ⟨B, 1, none⟩, 4, q.id⟩ (by unfold Pt.V; simp only [IDN.out]; rfl) (by have h := bk_part Q0.out.2 1 q.id (Qt.id_at Q0.out.1); rw [IDN.out] at h; exact h) (by simp only [List.length_append, List.length_cons, List.length_nil, IDN.out, PINN.out, OWNN.out, KEYN.out, numL_len]; omega) (fun v2 w2 r1 g1 l1 => hK _ _ ?_)
 clear hK
 replace KT := Hi (KT.out.trans (Kt.grown O0.out g1 hB1))
 replace Q0 := Hi (QB.kt Q0.out (Kt.grown O0.out g1 hB1))
 replace O0 := Hi r1
 replace hB1 : B ≤ w2.heap.size := Nat.le_trans hB1 g1.size
 clear r1 g1 l1
 obtain ⟨e0, e21, e22, e55, e56⟩ := Q0.out.cells
 go_wp2_with ((with_reducible refine so5 ?_ ?_); (focus rfl))
 clear e0 e21 e22 e55 e56
 (with_reducible refine ⟨?_⟩)
 (with_reducible refine at_any ?_ ?_); (focus go_simp); refine fun K0 hK => wp_cat (.tmp 15) (.tmp 17) rfl B (v2) _ rfl O0.out hB1 ⟨some ⟨B, 5, none⟩, 16, q.pin⟩ (by unfold Pt.V; simp only [PINN.out]; rfl) (by have h := bk_part Q0.out.2 5 q.pin (Qt.pin_at Q0.out.1); rw [PINN.out] at h; exact h) (by simp only [List.length_append, List.length_cons, List.length_nil, IDN.out, PINN.out, OWNN.out, KEYN.out, numL_len]; omega) (fun v3 w3 r1 g1 l1 => hK _ _ ?_)
 clear hK
 replace KT := Hi (KT.out.trans (Kt.grown O0.out g1 hB1))
 replace Q0 := Hi (QB.kt Q0.out (Kt.grown O0.out g1 hB1))
 replace O0 := Hi r1
 replace hB1 : B ≤ w3.heap.size := Nat.le_trans hB1 g1.size
 clear r1 g1 l1
 obtain ⟨e0, e21, e22, e55, e56⟩ := Q0.out.cells
 go_wp2_with ((with_reducible refine so5 ?_ ?_); (focus rfl))
 (with_reducible refine ⟨?_⟩)
 change wpList _ _ _ _ _ (w3.alloc (.cells #[.int .u8 (q.lim % 256)] 5))
 have I1 := Hi (lit1_in w3 q.lim)
 have x1 : Ex w3 (w3.alloc (.cells #[.int .u8 (q.lim % 256)] 5)) := Ex.alloc _ _
 obtain ⟨gl, hgl⟩ : ∃ g, g = w3.heap.size := ⟨_, rfl⟩
 rw [← hgl] at I1 ⊢
 clear hgl
 replace KT := Hi (KT.out.trans (x1.kt hB1))
 replace Q0 := Hi (Q0.out.ext x1)
 replace O0 := Hi (ownU_ex x1 O0.out)
 replace hB1 := Nat.le_trans hB1 (Below.size x1)
 clear x1 e0 e21 e22 e55 e56
 generalize (w3.alloc (.cells #[.int .u8 (q.lim % 256)] 5)) = z4 at I1 KT Q0 O0 hB1 ⊢
 (with_reducible refine at_any ?_ ?_); (focus go_simp); refine fun K0 hK => wp_cat (.tmp 19) (.tmp 23) rfl B (v3) _ rfl O0.out hB1 ⟨some ⟨gl, 0, none⟩, 1, [Sm.by8 q.lim]⟩ rfl I1.out (by simp only [List.length_append, List.length_cons, List.length_nil, IDN.out, PINN.out, OWNN.out, KEYN.out, numL_len]; omega) (fun v4 w4 r1 g1 l1 => hK _ _ ?_)
 clear hK
 clear I1
 replace KT := Hi (KT.out.trans (Kt.grown O0.out g1 hB1))
 replace Q0 := Hi (QB.kt Q0.out (Kt.grown O0.out g1 hB1))
 replace O0 := Hi r1
 replace hB1 : B ≤ w4.heap.size := Nat.le_trans hB1 g1.size
 clear r1 g1 l1
 obtain ⟨e0, e21, e22, e55, e56⟩ := Q0.out.cells
 go_wp2_with ((with_reducible refine so5 ?_ ?_); (focus rfl))
 clear e0 e21 e22 e55 e56
 (with_reducible refine ⟨?_⟩)
 (with_reducible refine at_any ?_ ?_); (focus go_simp); refine fun K0 hK => wp_cat (.tmp 25) (.tmp 27) rfl B (v4) _ rfl O0.out hB1 ⟨some ⟨B, 23, none⟩, 16, q.own⟩ (by unfold Pt.V; simp only [OWNN.out]; rfl) (by have h := bk_part Q0.out.2 23 q.own (Qt.own_at Q0.out.1); rw [OWNN.out] at h; exact h) (by simp only [List.length_append, List.length_cons, List.length_nil, IDN.out, PINN.out, OWNN.out, KEYN.out, numL_len]; omega) (fun v5 w5 r1 g1 l1 => hK _ _ ?_)
 clear hK
 replace KT := Hi (KT.out.trans (Kt.grown O0.out g1 hB1))
 replace Q0 := Hi (QB.kt Q0.out (Kt.grown O0.out g1 hB1))
 replace O0 := Hi r1
 replace hB1 : B ≤ w5.heap.size := Nat.le_trans hB1 g1.size
 clear r1 g1 l1
 obtain ⟨e0, e21, e22, e55, e56⟩ := Q0.out.cells
 go_wp2_with ((with_reducible refine so5 ?_ ?_); (focus rfl))
 clear e0 e21 e22 e55 e56
 (with_reducible refine ⟨?_⟩)
 (with_reducible refine at_any ?_ ?_); (focus go_simp); refine fun K0 hK => wp_cat (.tmp 29) (.tmp 31) rfl B (v5) _ rfl O0.out hB1 ⟨some ⟨B, 39, none⟩, 16, q.key⟩ (by unfold Pt.V; simp only [KEYN.out]; rfl) (by have h := bk_part Q0.out.2 39 q.key (Qt.key_at Q0.out.1); rw [KEYN.out] at h; exact h) (by simp only [List.length_append, List.length_cons, List.length_nil, IDN.out, PINN.out, OWNN.out, KEYN.out, numL_len]; omega) (fun v6 w6 r1 g1 l1 => hK _ _ ?_)
 clear hK
 replace KT := Hi (KT.out.trans (Kt.grown O0.out g1 hB1))
 replace Q0 := Hi (QB.kt Q0.out (Kt.grown O0.out g1 hB1))
 replace O0 := Hi r1
 replace hB1 : B ≤ w6.heap.size := Nat.le_trans hB1 g1.size
 clear r1 g1 l1
 obtain ⟨e0, e21, e22, e55, e56⟩ := Q0.out.cells
 go_wp2_with ((with_reducible refine so5 ?_ ?_); (focus rfl))
 (with_reducible refine ⟨?_⟩)
 change wpList _ _ _ _ _ (w6.alloc (.cells #[.int .u8 (q.client % 256)] 5))
 have I1 := Hi (lit1_in w6 q.client)
 have x1 : Ex w6 (w6.alloc (.cells #[.int .u8 (q.client % 256)] 5)) := Ex.alloc _ _
 obtain ⟨gl, hgl⟩ : ∃ g, g = w6.heap.size := ⟨_, rfl⟩
 rw [← hgl] at I1 ⊢
 clear hgl
 replace KT := Hi (KT.out.trans (x1.kt hB1))
 replace Q0 := Hi (Q0.out.ext x1)
 replace O0 := Hi (ownU_ex x1 O0.out)
 replace hB1 := Nat.le_trans hB1 (Below.size x1)
 clear x1 e0 e21 e22 e55 e56
 generalize (w6.alloc (.cells #[.int .u8 (q.client % 256)] 5)) = z7 at I1 KT Q0 O0 hB1 ⊢
 (with_reducible refine at_any ?_ ?_); (focus go_simp); refine fun K0 hK => wp_cat (.tmp 33) (.tmp 37) rfl B (v6) _ rfl O0.out hB1 ⟨some ⟨gl, 0, none⟩, 1, [Sm.by8 q.client]⟩ rfl I1.out (by simp only [List.length_append, List.length_cons, List.length_nil, IDN.out, PINN.out, OWNN.out, KEYN.out, numL_len]; omega) (fun v7 w7 r1 g1 l1 => hK _ _ ?_)
 clear hK
 clear I1
 replace KT := Hi (KT.out.trans (Kt.grown O0.out g1 hB1))
 replace Q0 := Hi (QB.kt Q0.out (Kt.grown O0.out g1 hB1))
 replace O0 := Hi r1
 replace hB1 : B ≤ w7.heap.size := Nat.le_trans hB1 g1.size
 clear r1 g1 l1
 obtain ⟨e0, e21, e22, e55, e56⟩ := Q0.out.cells
 go_wp2_with ((with_reducible refine so5 ?_ ?_); (focus rfl))
 refine (num_row q.num N0.out N1.out w7).mono ?_
 rintro e wn ⟨vn, rfl, on, xn⟩
 obtain ⟨pn, rfl, ln, inn, _⟩ := own_pt on
 have LN := Hi ln
 have IN := Hi inn
 replace KT := Hi (KT.out.trans (Ex.kt xn hB1))
 replace Q0 := Hi (Q0.out.ext xn)
 replace O0 := Hi (ownU_ex xn O0.out)
 replace hB1 := Nat.le_trans hB1 (Below.size xn)
 clear xn on ln inn e0 e21 e22 e55 e56
 go_wp2_with ((with_reducible refine so5 ?_ ?_); (focus rfl))
 (with_reducible refine ⟨?_⟩)
 (with_reducible refine at_any ?_ ?_); (focus go_simp); refine fun K0 hK => wp_cat (.tmp 39) (.tmp 42) rfl B (v7) _ rfl O0.out hB1 pn rfl IN.out (by rw [LN.out]; simp only [List.length_append, List.length_cons, List.length_nil, IDN.out, PINN.out, OWNN.out, KEYN.out, numL_len]; omega) (fun v8 w8 r1 g1 l1 => hK _ _ ?_)
 clear hK
 rw [LN.out] at r1
 clear IN
 replace KT := Hi (KT.out.trans (Kt.grown O0.out g1 hB1))
 replace Q0 := Hi (QB.kt Q0.out (Kt.grown O0.out g1 hB1))
 replace O0 := Hi r1
 replace hB1 : B ≤ w8.heap.size := Nat.le_trans hB1 g1.size
 clear r1 g1 l1
 obtain ⟨e0, e21, e22, e55, e56⟩ := Q0.out.cells
 go_wp2_with ((with_reducible refine so5 ?_ ?_); (focus rfl))
 refine (putsec_any B v8 _ q.sec w8 O0.out hB1 (HS.out.keep KT.out.below) (by simp only [List.length_append, List.length_cons, List.length_nil, IDN.out, PINN.out, OWNN.out, KEYN.out, numL_len]; omega) HM.out).mono ?_
 rintro e w8 ⟨v8, rfl, o8, k8⟩
 have O8 := Hi o8
 have K8 := Hi (KT.out.trans k8)
 clear o8 k8 e0 e21 e22 e55 e56
 go_wp2_with fail
 go_ret
 exact ⟨v8, rfl, by have h := O8.out; simp only [List.nil_append] at h; rw [← HBs.out]; exact h, by have h := K8.out.below; rw [HBs.out] at h; exact h⟩
theorem Qc.sec_le {c : Qc} (h : c.right = true) : c.sec.length ≤ 64 := by
 unfold Qc.right at h
 rw [Bool.and_eq_true] at h
 obtain ⟨_, h⟩ := h
 split at h
 ·rw [Bool.and_eq_true] at h; exact of_decide_eq_true h.2
 split at h
 ·rw [Bool.and_eq_true] at h; have := of_decide_eq_true h.2; rw [this]; decide
 split at h
 ·rw [Bool.and_eq_true] at h; have := of_decide_eq_true h.2; rw [this]; decide
 cases h
def CodPost (b : Bool) (l : List UInt8) (w : World) (e : Ending) (w' : World) : Prop := ∃ v, e = .returned (.tuple #[v, .int .i64 (if b = true then 0 else 1)]) ∧ ownU w' w.heap.size v (if b = true then l else []) ∧ Ex w w'
theorem creq_any (q : Qt) (w : World) (hq : QI w q) : Calls Try.prog 58 #[q.V] w (CodPost q.ct.right (reqB q.ct) w) := by
 obtain ⟨ds, hds⟩ : ∃ ds, ds = q.C.toArray := ⟨_, rfl⟩
 have Q0 : Hid (QB (w.alloc (.cells ds 47)) w.heap.size q) := Hi ⟨hq.1, by rw [hds]; exact Bk.new rfl _ _⟩
 have BW : Hid (Ex w (w.alloc (.cells ds 47))) := Hi (Ex.alloc _ _)
 have HQ := Hi hq
 obtain ⟨b, hb⟩ : ∃ b, b = q.ct.right := ⟨_, rfl⟩
 have HB := Hi hb
 rw [show (Calls Try.prog 58 #[q.V] w) = (Calls Try.prog 58 #[.agg ds] w) by rw [hds]; rfl]
 rw [← hb]
 clear hds hq hb
 go_enter Try.func58, Try.ntmps58
 go_wp2_with ((with_reducible refine so0 ?_ ?_); (focus rfl))
 (with_reducible refine ⟨?_⟩)
 change wpList _ _ _ _ _ (w.alloc (.cells ds 47))
 generalize (w.alloc (.cells ds 47)) = z0 at Q0 BW ⊢
 obtain ⟨g, hg⟩ : ∃ g, g = w.heap.size := ⟨_, rfl⟩
 rw [← hg] at Q0 ⊢
 clear hg
 (with_reducible refine at_any ?_ ?_); (focus go_simp); refine fun K0 hK => ld_q _ g q rfl rfl Q0.out (hK _ _ ?_)
 clear hK
 go_wp2_with ((with_reducible refine so0 ?_ ?_); (focus rfl))
 refine (qright_any q _ (HQ.out.ext BW.out)).mono ?_
 rintro e w2 ⟨rfl, x2⟩
 rw [← HB.out]
 replace Q0 := Hi (Q0.out.ext x2)
 replace BW := Hi (Ex.trans BW.out x2)
 clear x2
 cases b
 ·skip
  go_wp2_with fail
  go_ret2
  exact ⟨.slice none 0 0, rfl, ownU_nil _ _, BW.out⟩
 skip
 go_wp2_with ((with_reducible refine so0 ?_ ?_); (focus rfl))
 refine at9 (by go_simp) fun K0 hK => ld_q _ g q rfl rfl Q0.out (hK _ _ ?_)
 clear hK
 go_wp2_with ((with_reducible refine so0 ?_ ?_); (focus rfl))
 have SZ := Hi (Below.size BW.out)
 refine (putreq_any q _ (HQ.out.ext BW.out) (by have h := (Qc.sec_le HB.out.symm); exact Nat.le_trans h (by decide))).mono ?_
 rintro e w3 ⟨v, rfl, o3, x3⟩
 have O3 := Hi o3
 replace BW := Hi (Ex.trans BW.out x3)
 clear x3 o3
 go_wp2_with fail
 go_ret2
 exact ⟨v, rfl, ownU_less O3.out SZ.out, BW.out⟩
end Go.Proofs.Ytopamplmpfndlaa.Cl
namespace Go.Proofs.Ytopamplmpfndlaa.Cl
open Go.RowKit
theorem of_any (p : Pt) (n : Nat) (hl : p.l.length = n) (hn : n ≤ 8) (w : World) {B : Nat} (hp : p.In w B) :
  Calls Try.prog 61 #[p.V] w fun e w' => e = .returned (.int .u64 (Sm.beV p.l : Int)) ∧ w = w' := by
 rcases Nat.eq_zero_or_pos n with h0 | h0
 ·have hv : p.V = .slice p.ad 0 p.cap := by unfold Pt.V; rw [hl, h0]
  have hb : p.l = [] := List.eq_nil_of_length_eq_zero (by omega)
  rw [hv, hb]
  clear hv hb hl hp
  go_enter Try.func61, Try.ntmps61
  go_wp2_with fail
  refine wp_loop_rounds 1 ?_
  rw [rounds_succ]
  go_wp2_with fail
  go_ret
  exact ⟨rfl, rfl⟩
 obtain ⟨a, o, e, _, hc⟩ := hp.read (by omega)
 have hv : p.V = .slice (some ⟨a, o, none⟩) n p.cap := by unfold Pt.V; rw [e, hl]
 have HL := Hi hl
 have HC := Hi hc
 rw [hv]
 clear hv hc e hl hp
 go_enter Try.func61, Try.ntmps61
 go_wp2_with fail
 go_loop [3, 8] (fun x i => ∃ j : Nat, j ≤ n ∧ i = .int .i64 j ∧ x = .int .u64 (Sm.beV (p.l.take j) : Int)) (fun _ i => n - (intOf i).toNat)
 case atStart => exact ⟨0, by omega, rfl, rfl⟩
 obtain ⟨j, hj, rfl, rfl⟩ := hrel
 by_cases hlt : j < n
 ·have k := HC.out j (by rw [HL.out]; exact hlt)
  have ST := Hi (Sm.beV_step p.l j (by rw [HL.out]; exact hlt))
  have SM := Sm.beV_small p.l j (by omega) (by rw [HL.out]; omega)
  have BL := (p.l.getD j 0).toNat_lt
  generalize p.l.getD j 0 = b at k ST BL
  obtain ⟨x, hx⟩ : ∃ x : Int, x = (Sm.beV (p.l.take j) : Int) := ⟨_, rfl⟩
  have x0 : 0 ≤ x := by omega
  have x1 : x < 72057594037927936 := by omega
  have J := Hi (Sm.u64_join x (b.toNat : Int) x0 x1 (by omega) (by omega))
  have HX := Hi hx
  have q0 : (j : Int) < (n : Int) := by omega
  rw [← hx]
  clear hx SM
  go_wp2_with fail
  refine ⟨⟨j + 1, by omega, by go_num, ?_⟩, by simp [intOf]; omega⟩
  rw [J.out, ST.out, HX.out]
  congr 1
 obtain rfl : j = n := by omega
 have q0 : ¬ (j : Int) < (j : Int) := by omega
 go_wp2_with fail
 go_ret
 rw [show p.l.take j = p.l from List.take_of_length_le (by rw [HL.out]; exact Nat.le_refl _)]
 exact ⟨rfl, rfl⟩
abbrev St := Nat × Bool
def bad (L : List UInt8) (s : St) (n : Nat) : Bool := s.2 || decide (L.length - s.1 < n)
def tks (L : List UInt8) (s : St) (n : Nat) : St := if bad L s n = true then (s.1, true) else (s.1 + n, false)
def tkv (L : List UInt8) (s : St) (n : Nat) : List UInt8 := if bad L s n = true then [] else (L.drop s.1).take n
theorem tkv_len (L : List UInt8) (s : St) (n : Nat) : (tkv L s n).length = 0 ∨ (tkv L s n).length = n := by
 unfold tkv
 split
 ·exact Or.inl rfl
 rename_i h
 refine Or.inr ?_
 unfold bad at h
 simp at h
 rw [List.length_take, List.length_drop]
 omega
theorem tkv_le (L : List UInt8) (s : St) (n : Nat) : (tkv L s n).length ≤ n := by
 rcases tkv_len L s n with h | h <;> omega
def rdC (p : Pt) (s : St) : Array Value := #[p.V, .int .i64 s.1, .bool s.2]
structure RdI (w : World) (g : Nat) (p : Pt) (s : St) : Prop where
 blk : Bk w g 158 (rdC p s)
 le : s.1 ≤ p.l.length
 src : p.In w g
 big : p.l.length ≤ 9223372036854775807
theorem RdI.ext {w w' : World} {g : Nat} {p : Pt} {s : St} (h : RdI w g p s) (k : Ex w w') : RdI w' g p s := ⟨h.blk.ext k, h.le, h.src.keep (k.mono (Nat.le_of_lt h.blk.lt)), h.big⟩
def TakePost (g : Nat) (p : Pt) (s : St) (n : Nat) (w : World) (e : Ending) (w' : World) : Prop := ∃ r : Pt, e = .returned r.V ∧ r.l = tkv p.l s n ∧ r.In w' g ∧ RdI w' g p (tks p.l s n) ∧ Md g w w'
theorem ex_drewN (w : World) (n : Nat) : Ex w (w.drewN n) := ⟨rfl, rfl, rfl, Nat.le_refl _, fun _ _ => rfl⟩
theorem pt_md {p : Pt} {w w' : World} {g B : Nat} (h : p.In w B) (k : Md g w w') (hg : B ≤ g) : p.In w' B := h.keep (k.below B hg _ (Below.refl _ _))
theorem TakePost.mk {g : Nat} {p : Pt} {a n m : Nat} {w W W2 : World} (hpv : p.V = .slice p.ad m p.cap) (hm : m = p.l.length) (he : tks p.l (a, false) n = (a + n, false) ∧ tkv p.l (a, false) n = (p.l.drop a).take n) (hn : a + n ≤ m) (h : RdI W g p (a + n, false)) (k : Md g w W) (x : Ex W W2) : TakePost g p (a, false) n w (.returned (.slice (p.ad.map fun x => x.add a) n (p.cap - a))) W2 := by
 have hl : ((p.l.drop a).take n).length = n := by rw [List.length_take, List.length_drop]; omega
 have h2 := h.ext x
 refine ⟨⟨p.ad.map fun x => x.add a, p.cap - a, (p.l.drop a).take n⟩, by unfold Pt.V; simp only [hl], he.2.symm, ?_, by rw [he.1]; exact h2, k.trans (x.md (Nat.le_of_lt h.blk.lt))⟩
 refine ⟨by show ((p.l.drop a).take n).length ≤ _; rw [hl]; have := h.src.cap; show n ≤ p.cap - a; omega, fun h0 => ?_, fun h0 => ?_⟩
 ·have h0 : (p.ad.map fun x => x.add a) = none := h0
  have := h.src.nil (by cases hp : p.ad with
   | none => rfl
   | some A => rw [hp] at h0; cases h0)
  show p.cap - a = 0; omega
 have h0 : 0 < ((p.l.drop a).take n).length := h0
 rw [hl] at h0
 obtain ⟨b, o, e, hb, hc⟩ := h2.src.read (by omega)
 refine ⟨b, o + a, by show (p.ad.map fun x => x.add a) = _; rw [e, Option.map_some, Addr.add_lit], hb, fun i hi => ?_⟩
 have hi : i < ((p.l.drop a).take n).length := hi
 rw [hl] at hi
 rw [Nat.add_assoc, hc (a + i) (by omega)]
 show _ = some (Value.int .u8 ((((p.l.drop a).take n).getD i 0).toNat : Int))
 congr 3
 simp [List.getD, List.getElem?_take, List.getElem?_drop, hi]
theorem TakePost.mk0 {g : Nat} {p : Pt} {a n : Nat} {w W W2 : World} (he : tks p.l (a, false) n = (a + n, false) ∧ tkv p.l (a, false) n = (p.l.drop a).take n) (hn : n = 0) (h : RdI W g p (a + n, false)) (k : Md g w W) (x : Ex W W2) : TakePost g p (a, false) n w (.returned (.slice p.ad n 0)) W2 := by
 subst hn
 refine ⟨⟨p.ad, 0, []⟩, rfl, by rw [he.2]; rfl, ⟨Nat.le_refl _, fun _ => rfl, fun h => absurd h (Nat.lt_irrefl 0)⟩, by rw [he.1]; exact h.ext x, k.trans (x.md (Nat.le_of_lt h.blk.lt))⟩
theorem take_any (g : Nat) (p : Pt) (s : St) (n : Nat) (hn : n ≤ 1000) (w : World) (h : RdI w g p s) : Calls Try.prog 179 #[.pointer (some ⟨g, 0, none⟩), .int .i64 n] w (TakePost g p s n w) := by
 obtain ⟨a, wr⟩ := s
 have hle : a ≤ p.l.length := h.le
 obtain ⟨m, hm⟩ : ∃ m, m = p.l.length := ⟨_, rfl⟩
 have hbig := h.big
 have hpv : p.V = .slice p.ad m p.cap := by unfold Pt.V; rw [hm]
 rw [← hm] at hle hbig
 have HM := Hi hm
 have HPV := Hi hpv
 have H := Hi h
 have c0 : w.cell? ⟨g, 0, none⟩ = some (.slice p.ad m p.cap) := by rw [h.blk.cell, ← hpv]; rfl
 have c1 : w.cell? ⟨g, 1, none⟩ = some (.int .i64 (a : Int)) := by rw [h.blk.cell]; rfl
 have c2 : w.cell? ⟨g, 2, none⟩ = some (.bool wr) := by rw [h.blk.cell]; rfl
 have f1 : w.frozen? ⟨g, 1, none⟩ = false := h.blk.fr 1
 have f2 : w.frozen? ⟨g, 2, none⟩ = false := h.blk.fr 2
 by_cases hb : bad p.l (a, wr) n = true
 ·have HR : Hid (∀ w2, Ex w w2 → TakePost g p (a, wr) n w (.returned (.slice none 0 0)) (w2.setCell ⟨g, 2, none⟩ (.bool true))) := Hi (fun w2 k => by
   have h1 : tks p.l (a, wr) n = (a, true) := by unfold tks; rw [if_pos hb]
   have o := Only.setCell g 2 (.bool true) w2
   have h2 := h.ext k
   refine ⟨nilB, rfl, by unfold tkv; rw [if_pos hb]; rfl, nilB_in _ _, ?_, (k.md (Nat.le_of_lt h.blk.lt)).trans o.md⟩
   rw [h1]
   exact ⟨h2.blk.put 2 _, h.le, pt_md h2.src o.md (Nat.le_refl _), h.big⟩)
  unfold bad at hb
  rw [← hm] at hb
  clear h hpv hm
  cases wr
  ·have q1 : (m : Int) - (a : Int) < (n : Int) := by simp at hb; omega
   clear hb
   go_enter Try.func179, Try.ntmps179
   go_wp2_with fail
   go_quiet (fail)
   go_wp2_with fail
   go_ret
   exact HR.out _ (ex_drewN w _)
  clear hb
  go_enter Try.func179, Try.ntmps179
  go_wp2_with fail
  go_quiet (fail)
  go_wp2_with fail
  go_ret
  exact HR.out _ (ex_drewN w _)
 have hwr : wr = false := by unfold bad at hb; simp at hb; exact hb.1
 subst hwr
 have hn2 : n ≤ m - a := by unfold bad at hb; simp at hb; rw [← hm] at hb; omega
 have q1 : decide ((m : Int) - (a : Int) < (n : Int)) = false := decide_eq_false (by omega)
 have q2 : ¬ (m : Int) - (a : Int) < (n : Int) := by omega
 have hcap : m ≤ p.cap := by have := h.src.cap; omega
 have HR : Hid (∀ w2, Ex w w2 → RdI (w2.setCell ⟨g, 1, none⟩ (.int .i64 ((a : Int) + (n : Int)))) g p (a + n, false) ∧ Md g w (w2.setCell ⟨g, 1, none⟩ (.int .i64 ((a : Int) + (n : Int))))) := Hi (fun w2 k => by
  have o := Only.setCell g 1 (.int .i64 ((a : Int) + (n : Int))) w2
  have h2 := h.ext k
  exact ⟨⟨h2.blk.put 1 _, (by rw [← hm]; show a + n ≤ m; omega), pt_md h2.src o.md (Nat.le_refl _), h.big⟩, (k.md (Nat.le_of_lt h.blk.lt)).trans o.md⟩)
 have HE : Hid (tks p.l (a, false) n = (a + n, false) ∧ tkv p.l (a, false) n = (p.l.drop a).take n) := Hi (by unfold tks tkv; rw [if_neg hb, if_neg hb]; exact ⟨rfl, rfl⟩)
 clear h hpv hm hb
 go_enter Try.func179, Try.ntmps179
 go_wp2_with fail
 go_quiet (fail)
 go_wp2_with fail
 obtain ⟨R1, M1⟩ := HR.out (w.drewN nq) (ex_drewN w _)
 generalize (w.drewN nq).setCell ⟨g, 1, none⟩ (.int .i64 ((a : Int) + (n : Int))) = W at R1 M1 ⊢
 clear c0 c1 c2 f1 f2 HR
 have c0 : W.cell? ⟨g, 0, none⟩ = some (.slice p.ad m p.cap) := by rw [R1.blk.cell, ← HPV.out]; rfl
 have c1 : W.cell? ⟨g, 1, none⟩ = some (.int .i64 ((a : Int) + (n : Int))) := by rw [R1.blk.cell]; rfl
 replace R1 := Hi R1
 replace M1 := Hi M1
 have q3 : (0 : Int) ≤ (a : Int) := by omega
 have q4 : (a : Int) ≤ (a : Int) + (n : Int) := by omega
 have q5 : (a : Int) + (n : Int) ≤ (p.cap : Int) := by omega
 go_quiet (fail)
 all_goals go_wp2_with fail
 all_goals go_ret
 all_goals first | exact TakePost.mk HPV.out HM.out HE.out (by omega) R1.out M1.out (ex_drewN W _) | exact TakePost.mk0 HE.out (by omega) R1.out M1.out (ex_drewN W _)
end Go.Proofs.Ytopamplmpfndlaa.Cl
namespace Go.Proofs.Ytopamplmpfndlaa.Cl
open Go.RowKit
section
variable {o : Oper} {a : Act} {w : World} {K : Act → World → Prop} {Q : Exit → Act → World → Prop}
theorem ld_idb (x : Operand) (g : Nat) (L : List UInt8) (ho : o.op = .load 26 x) (ha : a.eval x = .pointer (some ⟨g, 0, none⟩)) (hL : L.length = 4) (h : Bk w g 26 (Lib.byteCells L).toArray) (hk : K (a.put o.dst (digV L)) w) : o.wp Try.prog a w K Q := by
 obtain ⟨dd, hd⟩ : ∃ d, Try.prog.underlying 26 = some d ∧ d.isRow = true := ⟨_, Try.underlying26, rfl⟩
 exact wp_ldp (C := Lib.byteCells L) (Lib.byteCells L) x g 0 dd ho ha h (by simp) hd.1 hd.2 (by rw [Try.sizeId, byteCells_len, hL]) hk
theorem st_idb (x y : Operand) (g : Nat) (M L : List UInt8) (ho : o.op = .store 26 x y) (ha : a.eval x = .pointer (some ⟨g, 0, none⟩)) (hy : a.eval y = digV L) (hM : M.length = 4) (hL : L.length = 4) (h : Bk w g 26 (Lib.byteCells M).toArray)
  (hk : ∀ w', Bk w' g 26 (Lib.byteCells L).toArray → Only g w w' → K (a.put o.dst undef) w') : o.wp Try.prog a w K Q := by
 refine wp_stp (Lib.byteCells L) x y g 0 ho ha hy h (by rw [byteCells_len, byteCells_len, hL, hM]; decide) (by rw [Try.sizeId, byteCells_len, hL]) (bytes_one L) (fun w' h1 h2 => hk w' ?_ h2)
 have e : (Lib.byteCells M).take 0 ++ Lib.byteCells L ++ (Lib.byteCells M).drop (0 + (Lib.byteCells L).length) = Lib.byteCells L := by
  rw [List.take_zero, List.nil_append, List.drop_eq_nil_of_le (by rw [byteCells_len, byteCells_len, hL, hM]; decide), List.append_nil]
 rw [e] at h1; exact h1
theorem res_idb {fn : Func} {a : Tmp} (h : fn.results = #[.cell a 26]) (tmps : Array Value) (w : World) (g : Nat) (ha : tmps.getD a undef = .pointer (some ⟨g, 0, none⟩)) (L : List UInt8) (hL : L.length = 4) (hB : Bk w g 26 (Lib.byteCells L).toArray) : (results fn tmps).run Try.prog w = .ok (digV L) w := by
 obtain ⟨dd, hd⟩ : ∃ d, Try.prog.underlying 26 = some d ∧ d.isRow = true := ⟨_, Try.underlying26, rfl⟩
 exact res_row1 h tmps w g ha hB hd.1 hd.2 (by rw [Try.sizeId, byteCells_len, hL])
theorem ld_dgb (x : Operand) (g : Nat) (L : List UInt8) (ho : o.op = .load 36 x) (ha : a.eval x = .pointer (some ⟨g, 0, none⟩)) (hL : L.length = 16) (h : Bk w g 36 (Lib.byteCells L).toArray) (hk : K (a.put o.dst (digV L)) w) : o.wp Try.prog a w K Q := by
 obtain ⟨dd, hd⟩ : ∃ d, Try.prog.underlying 36 = some d ∧ d.isRow = true := ⟨_, Try.underlying36, rfl⟩
 exact wp_ldp (C := Lib.byteCells L) (Lib.byteCells L) x g 0 dd ho ha h (by simp) hd.1 hd.2 (by rw [Try.sizeDig, byteCells_len, hL]) hk
theorem st_dgb (x y : Operand) (g : Nat) (M L : List UInt8) (ho : o.op = .store 36 x y) (ha : a.eval x = .pointer (some ⟨g, 0, none⟩)) (hy : a.eval y = digV L) (hM : M.length = 16) (hL : L.length = 16) (h : Bk w g 36 (Lib.byteCells M).toArray)
  (hk : ∀ w', Bk w' g 36 (Lib.byteCells L).toArray → Only g w w' → K (a.put o.dst undef) w') : o.wp Try.prog a w K Q := by
 refine wp_stp (Lib.byteCells L) x y g 0 ho ha hy h (by rw [byteCells_len, byteCells_len, hL, hM]; decide) (by rw [Try.sizeDig, byteCells_len, hL]) (bytes_one L) (fun w' h1 h2 => hk w' ?_ h2)
 have e : (Lib.byteCells M).take 0 ++ Lib.byteCells L ++ (Lib.byteCells M).drop (0 + (Lib.byteCells L).length) = Lib.byteCells L := by
  rw [List.take_zero, List.nil_append, List.drop_eq_nil_of_le (by rw [byteCells_len, byteCells_len, hL, hM]; decide), List.append_nil]
 rw [e] at h1; exact h1
theorem res_dgb {fn : Func} {a : Tmp} (h : fn.results = #[.cell a 36]) (tmps : Array Value) (w : World) (g : Nat) (ha : tmps.getD a undef = .pointer (some ⟨g, 0, none⟩)) (L : List UInt8) (hL : L.length = 16) (hB : Bk w g 36 (Lib.byteCells L).toArray) : (results fn tmps).run Try.prog w = .ok (digV L) w := by
 obtain ⟨dd, hd⟩ : ∃ d, Try.prog.underlying 36 = some d ∧ d.isRow = true := ⟨_, Try.underlying36, rfl⟩
 exact res_row1 h tmps w g ha hB hd.1 hd.2 (by rw [Try.sizeDig, byteCells_len, hL])
end
structure JS (T : List (Value → Prop)) (prs : List (Nat × Nat)) (St : Array Bool → (Nat → Value) → World → Prop) (listed : Array Bool) (f : Nat → Value) (w : World) : Prop where
 vals : ∀ i, listed.getD i false = true → (T.getD i (fun _ => True)) (f i)
 st : St listed f w
 ord : ∀ x ∈ prs, listed.getD x.1 false = true → listed.getD x.2 false = true
section
variable {T : List (Value → Prop)} {prs : List (Nat × Nat)} {St : Array Bool → (Nat → Value) → World → Prop}
theorem JS.start {w : World} (listed : Array Bool) (f : Nat → Value) (h0 : ∀ i, listed.getD i false = false) (hs : St listed f w) : JS T prs St listed f w :=
 ⟨fun i hi => absurd hi (by rw [h0 i]; decide), hs, fun x _ hx => absurd hx (by rw [h0 x.1]; decide)⟩
theorem JS.next {listed : Array Bool} {f : Nat → Value} {w w' : World} (h : JS T prs St listed f w) {i : Nat} (hi : i < listed.size) {v : Value} (hv : (T.getD i (fun _ => True)) v) (hs : St (listed.setIfInBounds i true) (upd f i v) w') (ho : ∀ x ∈ prs, x.1 = i → listed.getD x.2 false = true) :
  JS T prs St (listed.setIfInBounds i true) (upd f i v) w' := by
 have mono : ∀ c, listed.getD c false = true → (listed.setIfInBounds i true).getD c false = true := fun c hc => by
  by_cases e : i = c
  ·subst e; exact set_new hi
  ·rw [gset e false]; exact hc
 refine ⟨fun j hj => ?_, hs, fun x hx h1 => ?_⟩
 ·by_cases e : j = i
  ·subst e; rw [upd_same]; exact hv
  ·rw [upd_ne _ _ e]
   refine h.vals j ?_
   rcases listed_set hj with rfl | hj
   ·exact absurd rfl e
   ·exact hj
 ·rcases listed_set h1 with e | h1
  ·exact mono _ (ho x hx e)
  ·exact mono _ (h.ord x hx h1)
theorem JS.nx {listed : Array Bool} {f : Nat → Value} {w w' : World} {N : Nat} {TT : List (Value → Prop)} (h : JS T prs St listed f w) (hls : listed.size = N) (hT : T = TT) {i : Nat} (hi : decide (i < N) = true) {v : Value} (hv : (TT.getD i (fun _ => True)) v) (hs : St (listed.setIfInBounds i true) (upd f i v) w') (ho : ∀ x ∈ prs, x.1 = i → listed.getD x.2 false = true) :
  JS T prs St (listed.setIfInBounds i true) (upd f i v) w' := h.next (by rw [hls]; exact of_decide_eq_true hi) (by rw [hT]; exact hv) hs ho
theorem JS.na {listed : Array Bool} {f : Nat → Value} {w w' : World} {N : Nat} {TT : List (Value → Prop)} (h : JS T prs St listed f w) (hls : listed.size = N) (hT : T = TT) {i : Nat} {v : Value} (hs : St (listed.setIfInBounds i true) (upd f i v) w') (hi : decide (i < N) = true := by rfl) (ho : (prs.all fun x => x.1 != i) = true := by decide) (hv : (TT.getD i (fun _ => True)) v := by first | rfl | exact congrArg (Value.int .i64) (by omega) | exact congrArg (Value.int .i64) (by rw [IntKind.wrap_i64]; omega) | exact congrArg Value.bool (decide_eq_false (by omega)) | exact congrArg Value.bool (decide_eq_true (by omega)) | exact congrArg (Value.int .u64) (by omega)) :
  JS T prs St (listed.setIfInBounds i true) (upd f i v) w' := h.nx hls hT hi hv hs (fun x hx e => by have := List.all_eq_true.1 ho x hx; simp [e] at this)
theorem JS.fa {TT : List (Value → Prop)} {listed : Array Bool} {f : Nat → Value} {w : World} (h : JS T prs St listed f w) (hT : T = TT) {j : Nat} (hd : listed.getD j false = true) {V : Value} (hV : TT.getD j (fun _ => True) = fun zz => zz = V) : f j = V := by
 have h1 := h.vals j hd
 rw [hT, hV] at h1
 exact h1
theorem JS.nz {listed : Array Bool} {f : Nat → Value} {w w' : World} {N : Nat} {TT : List (Value → Prop)} (h : JS T prs St listed f w) (hls : listed.size = N) (hT : T = TT) {i : Nat} {v : Value} (hs : St (listed.setIfInBounds i true) (upd f i v) w') (ho : ∀ x ∈ prs, x.1 = i → listed.getD x.2 false = true) (hi : decide (i < N) = true := by rfl) (hv : (TT.getD i (fun _ => True)) v := by first | rfl | exact congrArg (Value.int .i64) (by omega) | exact congrArg (Value.int .i64) (by rw [IntKind.wrap_i64]; omega) | exact congrArg Value.bool (decide_eq_false (by omega)) | exact congrArg Value.bool (decide_eq_true (by omega)) | exact congrArg (Value.int .u64) (by omega)) :
  JS T prs St (listed.setIfInBounds i true) (upd f i v) w' := h.nx hls hT hi hv hs ho
theorem JS.is {TT : List (Value → Prop)} {listed : Array Bool} {f : Nat → Value} {w : World} (h : JS T prs St listed f w) (hT : T = TT) {j : Nat} {ops : Array Oper} {tm : Array Value} (hd : listed.getD j false = true ∧ ∀ oj, ops[j]? = some oj → ∀ t, oj.dst = some t → tm.getD t undef = f j) {V : Value} (hV : TT.getD j (fun _ => True) = fun zz => zz = V) (oj : Oper) (ho : ops[j]? = some oj) (t : Tmp) (ht : oj.dst = some t) : tm.getD t undef = V := by
 have h1 := h.vals j hd.1
 rw [hT, hV] at h1
 rw [hd.2 oj ho t ht]; exact h1
theorem JS.iq {TT : List (Value → Prop)} {listed : Array Bool} {f : Nat → Value} {w : World} (h : JS T prs St listed f w) (hT : T = TT) {j : Nat} {ops : Array Oper} {tm : Array Value} (hd : listed.getD j false = true ∧ ∀ oj, ops[j]? = some oj → ∀ t, oj.dst = some t → tm.getD t undef = f j) {V : Value} (hV : TT.getD j (fun _ => True) = fun zz => zz = V) (oj : Oper) (ho : ops[j]? = some oj) (t : Tmp) (ht : oj.dst = some t) : tm[t]?.getD undef = V := by
 rw [← Array.getD_eq_getD_getElem?]; exact h.is hT hd hV oj ho t ht
theorem JS.last {listed : Array Bool} {f : Nat → Value} {w : World} (h : JS T prs St listed f w) {i : Nat} (hi : listed.getD i false = true) : (T.getD i (fun _ => True)) (f i) := h.vals i hi
end
theorem wp_copy_pt {o : Oper} {a : Act} {w : World} {K : Act → World → Prop} {Q : Exit → Act → World → Prop} (d s : Operand) (ho : o.op = .call { callee := .builtin .copy, args := #[d, s], argTypes := #[23, 23] }) (g n : Nat) {t : TypeId} (Z : List UInt8) (p : Pt) (L : List UInt8) (hL : p.l = L) (hd : a.eval d = .slice (some ⟨g, 0, none⟩) n n) (hs : a.eval s = p.V) {B : Nat} (hp : p.In w B) (hg : Bk w g t (Lib.byteCells Z).toArray) (hZ : Z.length = n) (hn : L.length = 0 ∨ L.length = n)
  (h : ∀ v w', Bk w' g t (Lib.byteCells (if L = [] then Z else L)).toArray → Only g w w' → K (a.put o.dst v) w') : o.wp Try.prog a w K Q := by
 subst hL
 have hq : (Try.prog.info? 5).map (·.size) = some 1 := by kernel_rfl
 cases had : p.ad with
 | none =>
  have hl : p.l = [] := by
   rcases Nat.eq_zero_or_pos p.l.length with h0 | h0
   ·exact List.eq_nil_of_length_eq_zero h0
   ·obtain ⟨_, _, e, _⟩ := hp.read h0; rw [had] at e; cases e
  have hr : (Builtin.copy_ #[23, 23] o.type #[.slice (some ⟨g, 0, none⟩) n n, .slice none 0 p.cap]).run Try.prog w = .ok (goInt 0) w := by
   cases hi : Try.prog.info? 5 with
   | none => simp [hi] at hq
   | some i => simp [Builtin.copy_, run_underlying Try.underlying23, Builtin.lenOf, Builtin.firstCells, sizeOf, typeInfo, hi, loadCells, loadCellsFrom, storeCells, Result.andThen]
  have hs2 : a.eval s = .slice none 0 p.cap := by rw [hs]; unfold Pt.V; rw [had, hl]; rfl
  unfold Oper.wp execOp
  simp only [ho, resolve, invoke, builtin, Sem.run_bind, Sem.run_pure, Result.andThen_ok, List.map_toArray, List.map_cons, List.map_nil, hd, hs2, hr]
  refine h _ w ?_ ⟨fun _ _ _ ha => ha, fun _ _ => rfl, rfl⟩
  rw [if_pos hl]; exact hg
 | some A =>
  have hs2 : a.eval s = .slice (some A) p.l.length p.cap := by rw [hs]; unfold Pt.V; rw [had]
  have hm : Nat.min p.l.length n = p.l.length := by rcases hn with h0 | h0 <;> rw [h0] <;> simp
  refine wp_copy_bk d s 23 23 5 g 0 n n A p.l.length p.cap 1 (Lib.byteCells Z) t (Lib.byteCells p.l) ho hd hs2 Try.underlying23 hq hg (by rw [hm, byteCells_len, Nat.mul_one]) (fun j u hu => ?_) (by rw [byteCells_len, byteCells_len, hZ]; rcases hn with h0 | h0 <;> omega) (fun u hu => byteCells_one hu) (fun w' h1 h2 => h _ w' ?_ h2)
  ·have h0 : 0 < p.l.length := by
    have := (List.getElem?_eq_some_iff.1 hu).1
    rw [byteCells_len] at this; omega
   obtain ⟨ad, e, hc⟩ := hp.cells h0
   rw [had] at e; cases e
   exact hc j u hu
  ·split
   ·rename_i hz
    rw [hz] at h1
    simpa [Lib.byteCells] using h1
   ·rename_i hz
    have hlen : p.l.length = n := by
     rcases hn with h0 | h0
     ·exact absurd (List.eq_nil_of_length_eq_zero h0) hz
     ·exact h0
    have e : (Lib.byteCells Z).drop (0 + (Lib.byteCells p.l).length) = [] := by
     rw [List.drop_eq_nil_iff, byteCells_len, byteCells_len]; omega
    rw [e, List.take_zero, List.nil_append, List.append_nil] at h1
    exact h1
theorem Md.only9 {g i : Nat} {w wa wb : World} (h : Md g w wa) (o : Only i wa wb) (hg : g < i) (hi : w.heap.size ≤ i) : Md g w wb :=
 ⟨fun B hB a ha => o.below B (by omega) a (h.below B hB a ha), fun k hk hl => (o.other k (by omega)).trans (h.other k hk hl), by rw [o.size]; exact h.size⟩
def ValPost (v : Value) (g : Nat) (p : Pt) (s : St) (w : World) (e : Ending) (w' : World) : Prop := e = .returned v ∧ RdI w' g p s ∧ Md g w w'
def RowRPost (l : List UInt8) (g : Nat) (p : Pt) (s : St) (w : World) (e : Ending) (w' : World) : Prop := ∃ r : Pt, e = .returned r.V ∧ r.l = l ∧ PN w' w.heap.size r ∧ RdI w' g p s ∧ Md g w w'
def pad4 (l : List UInt8) : List UInt8 := if l = [] then [0, 0, 0, 0] else l
theorem pad4_len (L : List UInt8) (s : St) : (pad4 (tkv L s 4)).length = 4 := by
 unfold pad4
 rcases tkv_len L s 4 with h | h
 ·rw [if_pos (List.eq_nil_of_length_eq_zero h)]; rfl
 split
 ·rfl
 exact h
theorem small_any (g : Nat) (p : Pt) (s : St) (w : World) (h : RdI w g p s) : Calls Try.prog 147 #[.pointer (some ⟨g, 0, none⟩)] w (ValPost (.int .i64 (Sm.beV (tkv p.l s 1) : Int)) g p (tks p.l s 1) w) := by
 have H := Hi h
 clear h
 go_enter Try.func147, Try.ntmps147
 go_wp2_with fail
 refine (take_any g p s 1 (by decide) w H.out).mono ?_
 rintro e w1 ⟨r, rfl, rl, ri, h1, m1⟩
 have RL := Hi rl
 have H1 := Hi h1
 have M1 := Hi m1
 have hle := tkv_le p.l s 1
 rw [← rl] at hle
 have RI := Hi ri
 clear rl ri h1 m1
 go_wp2_with fail
 refine (of_any r r.l.length rfl (by omega) w1 RI.out).mono ?_
 rintro e w2 ⟨rfl, rfl⟩
 have hz := Sm.beV_lt r.l
 have hz2 : (256 : Nat) ^ r.l.length ≤ 256 ^ 1 := Nat.pow_le_pow_right (by omega) hle
 have hz3 : (256 : Nat) ^ 1 = 256 := by decide
 obtain ⟨z, hzz⟩ : ∃ z : Int, z = (Sm.beV r.l : Int) := ⟨_, rfl⟩
 have z0 : 0 ≤ z := by omega
 have z1 : z < 256 := by omega
 rw [← hzz]
 have HZ := Hi hzz
 clear hzz hz hz2 hz3 hle
 go_wp2_with fail
 go_ret
 exact ⟨by rw [HZ.out, RL.out]; rfl, H1.out, M1.out⟩
theorem number_any (g : Nat) (p : Pt) (s : St) (w : World) (h : RdI w g p s) : Calls Try.prog 149 #[.pointer (some ⟨g, 0, none⟩)] w (ValPost (.int .u64 (Sm.beV (tkv p.l s 8) : Int)) g p (tks p.l s 8) w) := by
 have H := Hi h
 clear h
 go_enter Try.func149, Try.ntmps149
 go_wp2_with fail
 refine (take_any g p s 8 (by decide) w H.out).mono ?_
 rintro e w1 ⟨r, rfl, rl, ri, h1, m1⟩
 have RL := Hi rl
 have H1 := Hi h1
 have M1 := Hi m1
 have hle := tkv_le p.l s 8
 rw [← rl] at hle
 have RI := Hi ri
 clear rl ri h1 m1
 go_wp2_with fail
 refine (of_any r r.l.length rfl (by omega) w1 RI.out).mono ?_
 rintro e w2 ⟨rfl, rfl⟩
 have hz := Sm.beV_lt r.l
 have hz2 : (256 : Nat) ^ r.l.length ≤ 256 ^ 8 := Nat.pow_le_pow_right (by omega) hle
 have hz3 : (256 : Nat) ^ 8 = 18446744073709551616 := by decide
 obtain ⟨z, hzz⟩ : ∃ z : Int, z = (Sm.beV r.l : Int) := ⟨_, rfl⟩
 have z0 : 0 ≤ z := by omega
 have z1 : z < 18446744073709551616 := by omega
 rw [← hzz]
 have HZ := Hi hzz
 clear hzz hz hz2 hz3 hle
 go_wp2_with fail
 go_ret
 exact ⟨by rw [HZ.out, RL.out]; rfl, H1.out, M1.out⟩
theorem secret_any (g : Nat) (p : Pt) (s : St) (w : World) (h : RdI w g p s) : Calls Try.prog 150 #[.pointer (some ⟨g, 0, none⟩)] w (RowRPost (tkv p.l (tks p.l s 1) (Sm.beV (tkv p.l s 1))) g p (tks p.l (tks p.l s 1) (Sm.beV (tkv p.l s 1))) w) := by
 have H := Hi h
 clear h
 go_enter Try.func150, Try.ntmps150
 go_wp2_with fail
 refine (small_any g p s w H.out).mono ?_
 rintro e w1 ⟨rfl, h1, m1⟩
 have H1 := Hi h1
 have M1 := Hi m1
 have hz := Sm.beV_lt (tkv p.l s 1)
 have hz2 : (256 : Nat) ^ (tkv p.l s 1).length ≤ 256 ^ 1 := Nat.pow_le_pow_right (by omega) (tkv_le _ _ _)
 obtain ⟨n, hn⟩ : ∃ n, n = Sm.beV (tkv p.l s 1) := ⟨_, rfl⟩
 have hn2 : n ≤ 255 := by omega
 rw [← hn]
 have HN := Hi hn
 clear hn hz hz2 h1 m1
 go_wp2_with fail
 refine (take_any g p (tks p.l s 1) n (by omega) w1 H1.out).mono ?_
 rintro e w2 ⟨r, rfl, rl, ri, h2, m2⟩
 have RL := Hi rl
 have H2 := Hi h2
 have M2 := Hi (M1.out.trans m2)
 have hlr : r.l.length ≤ 255 := by have := tkv_le p.l (tks p.l s 1) n; rw [rl]; omega
 have RI := Hi ri
 clear rl ri h2 m2
 go_wp2_with ((with_reducible refine so5 ?_ ?_); (focus rfl))
 (with_reducible refine ⟨?_⟩)
 (with_reducible refine at_any ?_ ?_); (focus go_simp); refine fun K0 hK => wp_cat (.const (.slice none 0 0)) (.tmp 6) rfl w2.heap.size (.slice none 0 0) _ rfl (ownU_nil _ _) (Nat.le_refl _) r rfl (RI.out.more (Nat.le_of_lt H2.out.blk.lt)) (by simp; omega) (fun v3 w3 r1 g1 l1 => hK _ _ ?_)
 clear hK
 have X3 : Ex w2 w3 := (Below.refl _ _).grown g1 (Nat.le_refl _) (fun k hk => by cases hk)
 have SZ := Nat.le_of_lt H2.out.blk.lt
 have HSZ := Hi M2.out.size
 replace M2 := Hi (M2.out.trans (X3.md SZ))
 replace H2 := Hi (H2.out.ext X3)
 obtain ⟨q, rfl, ql, qi⟩ := own_pn (ownU_less r1 HSZ.out)
 have QL := Hi ql
 have QI := Hi qi
 clear r1 g1 l1 X3 ql qi SZ
 go_wp2_with fail
 go_ret
 exact ⟨q, rfl, by rw [QL.out, List.nil_append, RL.out, HN.out], QI.out, by rw [← HN.out]; exact H2.out, M2.out⟩
theorem whole_any (g : Nat) (p : Pt) (s : St) (w : World) (h : RdI w g p s) : Calls Try.prog 109 #[.pointer (some ⟨g, 0, none⟩)] w fun e w' => e = .returned (.bool (!s.2 && decide (s.1 = p.l.length))) ∧ Ex w w' := by
 obtain ⟨a, wr⟩ := s
 have hle : a ≤ p.l.length := h.le
 obtain ⟨m, hm⟩ : ∃ m, m = p.l.length := ⟨_, rfl⟩
 have hbig := h.big
 have hpv : p.V = .slice p.ad m p.cap := by unfold Pt.V; rw [hm]
 rw [← hm] at hle hbig ⊢
 have c0 : w.cell? ⟨g, 0, none⟩ = some (.slice p.ad m p.cap) := by rw [h.blk.cell, ← hpv]; rfl
 have c1 : w.cell? ⟨g, 1, none⟩ = some (.int .i64 (a : Int)) := by rw [h.blk.cell]; rfl
 have c2 : w.cell? ⟨g, 2, none⟩ = some (.bool wr) := by rw [h.blk.cell]; rfl
 clear h hpv hm
 cases wr
 ·by_cases e : a = m
  ·subst e
   go_enter Try.func109, Try.ntmps109
   go_wp2_with fail
   go_quiet (fail)
   go_wp2_with fail
   go_ret
   exact ⟨by simp, ex_drewN _ _⟩
  have e2 : ¬ (a : Int) = (m : Int) := by omega
  go_enter Try.func109, Try.ntmps109
  go_wp2_with fail
  go_quiet (fail)
  go_wp2_with fail
  go_ret
  exact ⟨by simp [e, e2], ex_drewN _ _⟩
 go_enter Try.func109, Try.ntmps109
 go_wp2_with fail
 go_quiet (fail)
 go_wp2_with fail
 go_ret
 exact ⟨by simp, ex_drewN _ _⟩
theorem id_any (g : Nat) (p : Pt) (s : St) (w : World) (h : RdI w g p s) : Calls Try.prog 148 #[.pointer (some ⟨g, 0, none⟩)] w (ValPost (digV (pad4 (tkv p.l s 4))) g p (tks p.l s 4) w) := by
 have I0 : Hid (Bk (w.alloc (.cells #[.int .u8 0, .int .u8 0, .int .u8 0, .int .u8 0] 26)) w.heap.size 26 (Lib.byteCells [0, 0, 0, 0]).toArray) := Hi (Bk.new rfl _ _)
 have H : Hid (RdI (w.alloc (.cells #[.int .u8 0, .int .u8 0, .int .u8 0, .int .u8 0] 26)) g p s) := Hi (h.ext (Ex.alloc _ _))
 have X0 : Hid (Ex w (w.alloc (.cells #[.int .u8 0, .int .u8 0, .int .u8 0, .int .u8 0] 26))) := Hi (Ex.alloc _ _)
 have HG9 := Hi (Nat.le_of_lt h.blk.lt)
 have HG := Hi h.blk.lt
 clear h
 go_enter Try.func148, Try.ntmps148
 go_wp2_with fail
 generalize (w.alloc (.cells #[.int .u8 0, .int .u8 0, .int .u8 0, .int .u8 0] 26)) = wr at *
 obtain ⟨i, hi⟩ : ∃ i, i = w.heap.size := ⟨_, rfl⟩
 rw [← hi] at I0 ⊢
 have HI := Hi hi
 clear hi
 have hS0 : ∀ (listed : Array Bool) (f : Nat → Value), (∀ i, listed.getD i false = false) → (fun (listed : Array Bool) (f : Nat → Value) (W : World) => (listed.getD 2 false = false → RdI W g p s) ∧ (listed.getD 2 false = true → RdI W g p (tks p.l s 4) ∧ ∃ r : Pt, f 2 = r.V ∧ r.l = tkv p.l s 4 ∧ r.In W g) ∧ Md g w W ∧ (listed.getD 3 false = false → Bk W i 26 (Lib.byteCells [0, 0, 0, 0]).toArray) ∧ (listed.getD 3 false = true → Bk W i 26 (Lib.byteCells (pad4 (tkv p.l s 4))).toArray)) listed f wr.drew := fun listed f h0 => ⟨fun _ => H.out.ext (ex_drewN wr 1), fun h9 => (by rw [h0] at h9; cases h9), (Ex.md (Ex.trans X0.out (ex_drewN wr 1)) HG9.out), fun _ => I0.out.ext (ex_drewN wr 1), fun h9 => (by rw [h0] at h9; cases h9)⟩
 obtain ⟨T, hT⟩ : ∃ T : List (Value → Prop), T = [(fun zz => zz = .slice (some ⟨i, 0, none⟩) 4 4), (fun zz => zz = .pointer (some ⟨g, 0, none⟩)), (fun _ => True), (fun _ => True)] := ⟨_, rfl⟩
 refine wp_region_gen (JS T ([] : List (Nat × Nat)) (fun (listed : Array Bool) (f : Nat → Value) (W : World) => (listed.getD 2 false = false → RdI W g p s) ∧ (listed.getD 2 false = true → RdI W g p (tks p.l s 4) ∧ ∃ r : Pt, f 2 = r.V ∧ r.l = tkv p.l s 4 ∧ r.In W g) ∧ Md g w W ∧ (listed.getD 3 false = false → Bk W i 26 (Lib.byteCells [0, 0, 0, 0]).toArray) ∧ (listed.getD 3 false = true → Bk W i 26 (Lib.byteCells (pad4 (tkv p.l s 4))).toArray))) (by kernel_rfl) (by kernel_rfl) (by kernel_rfl) (fitB_spec (by kernel_rfl)) (fun listed f h => JS.start listed f h (hS0 listed f h)) ?_ ?_
 ·intro i o ho
  have hi : i < 4 := (Array.getElem?_eq_some_iff.1 ho).1
  have hi' : i = 0 ∨ i = 1 ∨ i = 2 ∨ i = 3 := by omega
  clear hi
  rcases hi' with rfl | rfl | rfl | rfl
  all_goals (simp only [List.getElem?_toArray, List.getElem?_cons_zero, List.getElem?_cons_succ, Option.some.injEq] at ho; subst ho; intro listed f a w2 hJ hsz hls hun hdep hout hlat; first | (rw [if_pos (by rfl)]; intro K hK) | skip)
  ·have q2 := hout 2 ob
   rw [gd9] at q2
   clear hsz hdep hout hlat
   go_simp
   exact hK _ _ (hJ.na hls hT ⟨by rw [gset (by decide)]; exact hJ.st.1, by rw [gset (by decide), upd_ne _ _ (by decide)]; exact hJ.st.2.1, hJ.st.2.2.1, by rw [gset (by decide)]; exact hJ.st.2.2.2.1, by rw [gset (by decide)]; exact hJ.st.2.2.2.2⟩)
  ·have q0 := hout 0 ob
   exact wp_mw _ rfl q0 (hK _ _ (hJ.nx hls hT rfl rfl ⟨by rw [gset (by decide)]; exact hJ.st.1, by rw [gset (by decide), upd_ne _ _ (by decide)]; exact hJ.st.2.1, hJ.st.2.2.1, by rw [gset (by decide)]; exact hJ.st.2.2.2.1, by rw [gset (by decide)]; exact hJ.st.2.2.2.2⟩ nh))
  ·have q4 := hJ.iq hT (hdep ⟨1, .data⟩ (by simp) rfl) rfl _ rfl _ rfl
   have h2 := hJ.st.1 hun
   have hM := hJ.st.2.2.1
   have hI := hJ.st.2.2.2.1
   have hI2 := hJ.st.2.2.2.2
   have hlt := h2.blk.lt
   clear hsz hdep hout hlat
   go_simp
   refine (take_any g p s 4 (by decide) w2 h2).mono ?_
   rintro e w3 ⟨r, rfl, rl, ri, h3, m3⟩
   refine hK _ _ (hJ.nx hls hT rfl (by exact trivial) ⟨fun h9 => ?_, fun _ => ⟨h3, r, by rw [upd_same], rl, ri⟩, hM.trans m3, fun h9 => ?_, fun h9 => ?_⟩ nh)
   ·rw [set_new (by rw [hls]; decide)] at h9; cases h9
   ·rw [gset (by decide)] at h9; exact m3.bk (hI h9) (by have := HG.out; have := HI.out; omega)
   rw [gset (by decide)] at h9; exact m3.bk (hI2 h9) (by have := HG.out; have := HI.out; omega)
  have q3 := hJ.is hT (hdep ⟨0, .data⟩ (by simp) rfl) rfl _ rfl _ rfl
  have dd5 := hdep ⟨2, .data⟩ (by simp) rfl
  have q5 := dd5.2 _ rfl _ rfl
  have h5 := hJ.vals 2 dd5.1
  rw [hT] at h5
  have h5 : (fun _ => True) (f 2) := h5
  clear dd5
  have hl2 := (hdep ⟨2, .data⟩ (by simp) rfl).1
  obtain ⟨h3, r, e2, rl, ri⟩ := hJ.st.2.1 hl2
  rw [e2] at q5
  have hM := hJ.st.2.2.1
  have hB := hJ.st.2.2.2.1 hun
  refine wp_copy_pt (.tmp 3) (.tmp 5) rfl i 4 [0, 0, 0, 0] r (r.l) rfl q3 q5 ri hB rfl (by rw [rl]; exact tkv_len _ _ _) (fun v9 w9 hb9 ho9 => hK _ _ (hJ.nx hls hT rfl (by exact trivial) ⟨fun h9 => ?_, fun _ => ?_, Md.only9 hM ho9 (by have := HG.out; have := HI.out; omega) (by have := HI.out; omega), fun h9 => ?_, fun _ => ?_⟩ nh))
  ·rw [gset (by decide)] at h9; rw [hl2] at h9; cases h9
  ·refine ⟨⟨ho9.bk h3.blk (by have := HG.out; have := HI.out; omega), h3.le, ?_, h3.big⟩, r, ?_, rl, ?_⟩
   ·exact h3.src.keep (ho9.below g (by have := HG.out; have := HI.out; omega) _ (Below.refl _ _))
   ·rw [upd_ne _ _ (by decide)]; exact e2
   exact ri.keep (ho9.below g (by have := HG.out; have := HI.out; omega) _ (Below.refl _ _))
  ·rw [set_new (by rw [hls]; decide)] at h9; cases h9
  rw [rl] at hb9; unfold pad4; split at hb9 <;> (rename_i hz; first | (rw [if_pos hz]; exact hb9) | (rw [if_neg hz]; exact hb9))
 intro listed f w2 hall hJ
 have hst := hJ.st
 simp only [putAll, Act.put, List.setIfInBounds_toArray, List.set_cons_zero, List.set_cons_succ, Nat.zero_add, Nat.reduceAdd]
 have l2 := hall 2 (by simp)
 have l3 := hall 3 (by simp)
 obtain ⟨R9, _⟩ := hst.2.1 l2
 have M9 := Hi hst.2.2.1
 have B9 := Hi (hst.2.2.2.2 l3)
 replace R9 := Hi R9
 clear hst l2 l3 hJ hall hT hS0
 generalize f 0 = y0
 generalize f 1 = y1
 generalize f 2 = y2
 generalize f 3 = y3
 have LN := Hi (pad4_len p.l s)
 go_wp2_with ((with_reducible refine so0 ?_ ?_); (focus rfl))
 refine at9 (by go_simp) fun K0 hK => ld_idb _ i (pad4 (tkv p.l s 4)) rfl rfl LN.out B9.out (hK _ _ ?_)
 clear hK
 go_wp2_with ((with_reducible refine so0 ?_ ?_); (focus rfl))
 refine at9 (by go_simp) fun K0 hK => st_idb _ _ i (pad4 (tkv p.l s 4)) (pad4 (tkv p.l s 4)) rfl rfl rfl LN.out LN.out B9.out (fun w9 hb9 ho9 => hK _ _ ?_)
 clear hK
 replace R9 := Hi (show RdI w9 g p (tks p.l s 4) from ⟨ho9.bk R9.out.blk (by have := HG.out; have := HI.out; omega), R9.out.le, R9.out.src.keep (ho9.below g (by have := HG.out; have := HI.out; omega) _ (Below.refl _ _)), R9.out.big⟩)
 replace M9 := Hi (Md.only9 M9.out ho9 (by have := HG.out; have := HI.out; omega) (by have := HI.out; omega))
 have HD := Hi hb9
 clear hb9 ho9
 go_wp2_with fail
 exact bodyPost_ret (res_idb rfl _ _ i rfl (pad4 (tkv p.l s 4)) LN.out HD.out) rfl ⟨rfl, R9.out, M9.out⟩
end Go.Proofs.Ytopamplmpfndlaa.Cl
namespace Go.Proofs.Ytopamplmpfndlaa
open Go.RowKit
structure Sx where
 holds : Value → World → Prop
 stab : ∀ v w w', holds v w → Ex w w' → holds v w'
 fixed : Bool
 fix : fixed = true → ∀ v w w', holds v w → holds v w'
def Sx.is (x : Value) : Sx := ⟨fun v _ => v = x, fun _ _ _ h _ => h, true, fun _ _ _ _ h => h⟩
def Sx.any : Sx := ⟨fun _ _ => True, fun _ _ _ _ _ => trivial, true, fun _ _ _ _ _ => trivial⟩
def Sx.of (H : Value → World → Prop) (st : ∀ v w w', H v w → Ex w w' → H v w') : Sx := ⟨H, st, false, fun h => by cases h⟩
structure JE (base : World) (T : List Sx) (cons : List (Option Nat)) (prs : List (Nat × Nat)) (c1 c2 : Nat) (Fin : World → Prop) (listed : Array Bool) (f : Nat → Value) (w : World) : Prop where
 vals : ∀ i, listed.getD i false = true → (∀ c, cons.getD i none = some c → listed.getD c false = false) → (T.getD i .any).holds (f i) w
 pre : listed.getD c1 false = false → Ex base w
 fin : listed.getD c2 false = true → Fin w
 ord : ∀ x ∈ prs, listed.getD x.1 false = true → listed.getD x.2 false = true
section
variable {base : World} {T : List Sx} {cons : List (Option Nat)} {prs : List (Nat × Nat)} {c1 c2 : Nat} {Fin : World → Prop}
theorem JE.start (listed : Array Bool) (f : Nat → Value) (h0 : ∀ i, listed.getD i false = false) : JE base T cons prs c1 c2 Fin listed f base.drew :=
 ⟨fun i hi => absurd hi (by rw [h0 i]; decide), fun _ => (Below.refl base.heap.size base).drew, fun h => absurd h (by rw [h0 c2]; decide), fun x _ hx => absurd hx (by rw [h0 x.1]; decide)⟩
theorem JE.plain {listed : Array Bool} {f : Nat → Value} {w w' : World} (h : JE base T cons prs c1 c2 Fin listed f w) {i : Nat} (hi : i < listed.size) {v : Value} (hF : ∀ w w', Fin w → Ex w w' → Fin w') (h2 : i ≠ c2) (k : Ex w w') (hv : (T.getD i .any).holds v w') (ho : ∀ x ∈ prs, x.1 = i → listed.getD x.2 false = true) :
  JE base T cons prs c1 c2 Fin (listed.setIfInBounds i true) (upd f i v) w' := by
 have mono : ∀ c, listed.getD c false = true → (listed.setIfInBounds i true).getD c false = true := fun c hc => by
  by_cases e : i = c
  ·subst e; exact set_new hi
  ·rw [gset e false]; exact hc
 refine ⟨fun j hj hcj => ?_, fun hp => Ex.trans (h.pre (set_falseR hp)) k, fun hl => ?_, fun x hx h1 => ?_⟩
 ·by_cases e : j = i
  ·subst e; rw [upd_same]; exact hv
  ·rw [upd_ne _ _ e]
   have hj' : listed.getD j false = true := by
    rcases listed_set hj with rfl | hj
    ·exact absurd rfl e
    ·exact hj
   exact (T.getD j .any).stab _ _ _ (h.vals j hj' (fun c hcc => set_falseR (hcj c hcc))) k
 ·rw [gset h2 false] at hl
  exact hF _ _ (h.fin hl) k
 ·rcases listed_set h1 with e | h1
  ·exact mono _ (ho x hx e)
  ·exact mono _ (h.ord x hx h1)
theorem JE.iw {TT : List Sx} {listed : Array Bool} {f : Nat → Value} {w : World} (h : JE base T cons prs c1 c2 Fin listed f w) (hT : T = TT) {j : Nat} {ops : Array Oper} {tm : Array Value} (hd : listed.getD j false = true ∧ ∀ oj, ops[j]? = some oj → ∀ t, oj.dst = some t → tm.getD t undef = f j) {V : Value} (hV : TT.getD j .any = .is V) (hc : cons.getD j none = none) (oj : Oper) (ho : ops[j]? = some oj) (t : Tmp) (ht : oj.dst = some t) : tm.getD t undef = V := by
 have h1 := h.vals j hd.1 (fun c h9 => by rw [hc] at h9; cases h9)
 rw [hT, hV] at h1
 rw [hd.2 oj ho t ht]; exact h1
theorem JE.iv {TT : List Sx} {listed : Array Bool} {f : Nat → Value} {w : World} (h : JE base T cons prs c1 c2 Fin listed f w) (hT : T = TT) {j : Nat} {ops : Array Oper} {tm : Array Value} (hd : listed.getD j false = true ∧ ∀ oj, ops[j]? = some oj → ∀ t, oj.dst = some t → tm.getD t undef = f j) {V : Value} (hV : TT.getD j .any = .is V) (hc : cons.getD j none = none) (oj : Oper) (ho : ops[j]? = some oj) (t : Tmp) (ht : oj.dst = some t) : tm[t]?.getD undef = V := by
 rw [← Array.getD_eq_getD_getElem?]; exact h.iw hT hd hV hc oj ho t ht
theorem JE.mod {listed : Array Bool} {f : Nat → Value} {w w' : World} (h : JE base T cons prs c1 c2 Fin listed f w) {i : Nat} (hi : i < listed.size) {v : Value} {fx : List Bool} (hfx : T.map Sx.fixed = fx) (hv : (T.getD i .any).holds v w')
  (hc : ∀ j, j ≠ i → fx.getD j true = false → listed.getD j false = true → ∃ c, cons.getD j none = some c ∧ (c = i ∨ listed.getD c false = true))
  (hp : c1 = i ∨ listed.getD c1 false = true) (hf : (listed.setIfInBounds i true).getD c2 false = true → Fin w') (ho : ∀ x ∈ prs, x.1 = i → listed.getD x.2 false = true) :
  JE base T cons prs c1 c2 Fin (listed.setIfInBounds i true) (upd f i v) w' := by
 have new := set_new hi
 have mono : ∀ c, listed.getD c false = true → (listed.setIfInBounds i true).getD c false = true := fun c hc => by
  by_cases e : i = c
  ·subst e; exact new
  ·rw [gset e false]; exact hc
 refine ⟨fun j hj hcj => ?_, fun hp' => ?_, hf, fun x hx h1 => ?_⟩
 ·by_cases e : j = i
  ·subst e; rw [upd_same]; exact hv
  rw [upd_ne _ _ e]
  have hj' : listed.getD j false = true := by
   rcases listed_set hj with rfl | hj
   ·exact absurd rfl e
   ·exact hj
  have hold := h.vals j hj' (fun c hcc => set_falseR (hcj c hcc))
  cases hx : (T.getD j .any).fixed with
  | true => exact (T.getD j .any).fix hx _ _ _ hold
  | false =>
   have ht : fx.getD j true = false := by
    rw [← hfx, List.getD_eq_getElem?_getD, List.getElem?_map]
    rw [List.getD_eq_getElem?_getD] at hx
    cases hT : T[j]? with
    | none => rw [hT] at hx; exact absurd hx (by decide)
    | some s => rw [hT] at hx; exact hx
   obtain ⟨c, hcc, hci⟩ := hc j e ht hj'
   have := hcj c hcc
   rcases hci with rfl | hci
   ·rw [new] at this; cases this
   ·rw [mono c hci] at this; cases this
 ·rcases hp with rfl | hp
  ·rw [new] at hp'; cases hp'
  rw [mono _ hp] at hp'; cases hp'
 rcases listed_set h1 with e | h1
 ·exact mono _ (ho x hx e)
 exact mono _ (h.ord x hx h1)
end
end Go.Proofs.Ytopamplmpfndlaa
