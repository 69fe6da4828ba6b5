/- Uf, Ug, Uh -/
import Derived.Test.YtmjfnpmnhehnkaaPao
namespace Go.Proofs.Ytmjfnpmnhehnkaa
open Go.RowKit
theorem built_full (id : List UInt8) (c n : Int) (h : id.length = 4) : Try.prog.built 83 [(0, .int .i64 13), (1, digV id), (5, .int .i64 c), (6, .int .u64 n)] = some (repRt 13 id c n).C.toArray := by
 obtain ⟨a, b, c, d, rfl⟩ := len4 h
 kernel_rfl
/-- what Put makes of a table's vaults -/
def PutRel (vs : List Vt) (x : Vt) (ls : List Vt) : Prop :=
 (x.ct.right = false ∧ ls = vs) ∨ (x.ct.right = true ∧ ∃ p z, BI vs.length (idF vs) (idn x.id) p ∧ z.ct = x.ct ∧ ((p < vs.length ∧ idF vs p = idn x.id ∧ ls = vs.set p z) ∨ (NotIn vs (idn x.id) ∧ vs.length = 4 ∧ ls = vs) ∨ (NotIn vs (idn x.id) ∧ vs.length < 4 ∧ ls = vs.take p ++ z :: vs.drop p)))
theorem updF_id {α : Type} (f : Nat → α) (k : Nat) : updF f k (f k) = f := by
 funext i; unfold updF; split
 ·rename_i h; rw [h]
 rfl
theorem put_im {w w' : World} {B M s : Nat} {D : Nat → Nat} {r : Nat → Value} {v : Nat → List Vt} {x : Vt} {e : Ending} (h : IM w B M D r v) (hs : s < 16) (hp : PutPost (D s) (r s) (v s) x w e w') : ∃ n r' ls, e = .returned (.int .i64 n) ∧ PutRel (v s) x ls ∧ IM w' B M D (updF r s r') (updF v s ls) ∧ Tc (D s) (r s).ownBlock w w' ∧ Lies w (r s) r' := by
 have hM : M ≠ D s := fun e9 => by
  have h1 := h.blk; have h2 := (h.ts.tb s hs).blk
  rw [e9] at h1; unfold Bk at h1 h2; rw [h1] at h2; exact absurd (Obj.cells.inj (Option.some.inj h2)).2.1 (by decide)
 have hM2 : some M ≠ (r s).ownBlock := fun e9 => by
  rcases (h.ts.tb s hs).row.blk with h3 | ⟨gb, h3, _, _, cs, hb⟩
  ·rw [h3] at e9; cases e9
  rw [h3] at e9; cases e9
  have h1 := h.blk
  unfold Bk at h1 hb; rw [h1] at hb; exact absurd (Obj.cells.inj (Option.some.inj hb)).2.1 (by decide)
 rcases hp with ⟨h1, rfl, h2⟩ | ⟨h1, p, h2, ⟨z, a1, a2, rfl, a3, a4, a5⟩ | ⟨a1, a2, rfl, a3⟩ | ⟨z, rv', a1, a2, rfl, a3, a4, a5, a6⟩⟩
 ·exact ⟨1, r s, v s, rfl, Or.inl ⟨h1, rfl⟩, by rw [updF_id, updF_id]; exact h.ext h2, h2.tc _ _, Or.inl rfl⟩
 ·exact ⟨0, r s, _, rfl, Or.inr ⟨h1, p, z, h2, a3, Or.inl ⟨a1, a2, rfl⟩⟩, ⟨a5.bk h.blk hM hM2, h.ts.turn hs a4 a5 (Or.inl rfl)⟩, a5, Or.inl rfl⟩
 ·exact ⟨13, r s, v s, rfl, Or.inr ⟨h1, p, x, h2, rfl, Or.inr (Or.inl ⟨a1, a2, rfl⟩)⟩, by rw [updF_id, updF_id]; exact h.ext a3, a3.tc _ _, Or.inl rfl⟩
 exact ⟨0, rv', _, rfl, Or.inr ⟨h1, p, z, h2, a3, Or.inr (Or.inr ⟨a1, a2, rfl⟩)⟩, ⟨a5.bk h.blk hM hM2, h.ts.turn hs a4 a5 a6⟩, a5, a6⟩
theorem IM.kts9 {B M : Nat} {w w' : World} {D : Nat → Nat} {r : Nat → Value} {v : Nat → List Vt} (h : IM w B M D r v) (k : Kt [83] 0 w w') : IM w' B M D r v := ⟨k.bk h.blk (by decide), h.ts.kts k (by decide) (by decide) (by decide)⟩
theorem Tc.kt9 {w w' : World} {D : Nat} {rv : Value} {vs : List Vt} (k : Tc D rv.ownBlock w w') (ht : TB w D rv vs) {g : Nat} {t : TypeId} {cs : Array Value} (hb : Bk w g t cs) (h1 : t ≠ 169) (h2 : t ≠ 36) : Bk w' g t cs := by
 refine k.bk hb (fun e => ?_) (fun e => ?_)
 ·subst e
  have h3 := ht.blk
  unfold Bk at h3 hb; rw [hb] at h3; exact h1 (Obj.cells.inj (Option.some.inj h3)).2.1
 rcases ht.row.blk with h3 | ⟨gb, h3, _, _, cs2, hb2⟩
 ·rw [h3] at e; cases e
 rw [h3] at e; cases e
 unfold Bk at hb hb2; rw [hb] at hb2; exact h2 (Obj.cells.inj (Option.some.inj hb2)).2.1
theorem PN.tc9 {w w' : World} {D B : Nat} {rv : Value} {vs : List Vt} {p : Pt} (h : PN w B p) (k : Tc D rv.ownBlock w w') (ht : TB w D rv vs) : PN w' B p := by
 refine ⟨⟨h.1.cap, h.1.nil, fun h0 => ?_⟩, fun a e => ⟨(h.2 a e).1, (h.2 a e).2.elim fun cs hc => ⟨cs, k.kt9 ht hc (by decide) (by decide)⟩⟩⟩
 obtain ⟨a, o, e, hB, hc⟩ := h.1.read h0
 obtain ⟨_, cs, hb⟩ := h.2 _ e
 refine ⟨a, o, e, Nat.lt_of_lt_of_le hB k.size, fun i hi => ?_⟩
 rw [← hc i hi]
 have h2 := k.kt9 ht hb (by decide) (by decide)
 unfold Bk at hb h2
 simp only [World.cell?, h2, hb]
theorem Tc.only9 {w wa wb : World} {D g9 : Nat} {r : Option Nat} (h : Tc D r w wa) (ho : Only g9 wa wb) (hg : w.heap.size ≤ g9) : Tc D r w wb := by
 have t : Tc g9 none wa wb := ho.md.tc
 exact ⟨t.os.trans h.os, t.tape.trans h.tape, t.output.trans h.output, Nat.le_trans h.size t.size, fun k hk h1 h2 => (t.block k (Nat.lt_of_lt_of_le hk h.size) (by omega) (fun e => by cases e)).trans (h.block k hk h1 h2)⟩
theorem Tc.ex9 {w w' wr : World} {D : Nat} {rv : Value} {vs : List Vt} (k : Tc D rv.ownBlock wr w') (ht : TB wr D rv vs) (h : Ex w wr) (lo : w.heap.size ≤ D) : Ex w w' :=
 k.ex h lo (fun g hg => Nat.le_trans lo (Nat.le_of_lt (ht.row.row.lt g hg).1))
/-- what Do of an ideal map answers, and what it makes of the tables -/
def IStep (v : Nat → List Vt) (s : Nat) (q : Qc) (y : Rc) (v' : Nat → List Vt) : Prop :=
 (q.right = false ∧ y = errRc ∧ v' = v) ∨
 (q.right = true ∧ ∃ c b, GetDet (v s) (idn q.id) c b ∧
  (((doC c q).2.2 = false ∧ y = (doC c q).2.1 ∧ v' = v) ∨
   ((doC c q).2.2 = true ∧ b = false ∧ 4 ≤ (v s).length ∧ y = (repRt 13 q.id q.client q.num).ct ∧ v' = v) ∨
   ((doC c q).2.2 = true ∧ (b = true ∨ (v s).length < 4) ∧ y = (doC c q).2.1 ∧ ∃ x ls, x.ct = (doC c q).1 ∧ PutRel (v s) x ls ∧ v' = updF v s ls)))
def IDoPost (B M : Nat) (D : Nat → Nat) (r : Nat → Value) (v : Nat → List Vt) (s : Nat) (q : Qc) (w : World) (e : Ending) (w' : World) : Prop := ∃ (y : Rt) (r' : Nat → Value) (v' : Nat → List Vt), e = .returned y.V ∧ y.Ok ∧ PN w' w.heap.size y.sec ∧ IM w' B M D r' v' ∧ IStep v s q y.ct v' ∧ Tc (D s) (r s).ownBlock w w'
def IDoPost2 (B M : Nat) (D : Nat → Nat) (r : Nat → Value) (v : Nat → List Vt) (s : Nat) (q : Qc) (w : World) (e : Ending) (w' : World) : Prop := ∃ (y : Rt) (r' : Nat → Value) (v' : Nat → List Vt), e = .returned y.V ∧ y.Ok ∧ PN w' w.heap.size y.sec ∧ IM w' B M D r' v' ∧ IStep v s q y.ct v' ∧ Tc (D s) (r s).ownBlock w w' ∧ ∀ i, Lies w (r i) (r' i)
set_option maxHeartbeats 8000000 in
set_option maxRecDepth 100000 in
theorem ido2_any (B M : Nat) (D : Nat → Nat) (r : Nat → Value) (v : Nat → List Vt) (q : Qt) (s : Nat) (hs : Sm.shV q.id = (s : Int)) (hs16 : s < 16) (w : World) (h : IM w B M D r v) (hB : B ≤ M) (hq : QI w q) : Calls Try.prog 39 #[.pointer (some ⟨M, 0, none⟩), q.V] w (IDoPost2 B M D r v s q.ct w) := by
 obtain ⟨ds, hds⟩ : ∃ ds, ds = q.C.toArray := ⟨_, rfl⟩
 have Q0 : Hid (QB ((w.alloc (.cells ds 86)).alloc (.cells zeroRt.C.toArray 83)) w.heap.size q) := Lib.hid ⟨hq.1, by rw [hds]; exact (Bk.new rfl _ _).more _⟩
 have Y0 : Hid (RB ((w.alloc (.cells ds 86)).alloc (.cells zeroRt.C.toArray 83)) (w.heap.size + 1) zeroRt) := Lib.hid ⟨zeroRt_ok, Bk.new (by simp) _ _⟩
 have BW : Hid (Ex w ((w.alloc (.cells ds 86)).alloc (.cells zeroRt.C.toArray 83))) := Lib.hid (Ex.trans (Ex.alloc w _) (Ex.alloc _ _))
 have HQ := Lib.hid hq
 have HIM := Lib.hid (h.ext BW.out)
 have HSH := Lib.hid hs
 rw [show (Calls Try.prog 39 #[.pointer (some ⟨M, 0, none⟩), q.V] w) = (Calls Try.prog 39 #[.pointer (some ⟨M, 0, none⟩), .agg ds] w) by rw [hds]; rfl]
 have q0 : (0 : Int) ≤ (s : Int) := by omega
 have q1 : (s : Int) < 16 := by omega
 obtain ⟨rq, hrq⟩ : ∃ b, b = q.ct.right := ⟨_, rfl⟩
 have HRQ := Lib.hid hrq
 clear hds hq h hs hrq
 go_enter Try.func39, Try.ntmps39
 go_wp2_with ((with_reducible refine so0 ?_ ?_); (focus rfl))
 (with_reducible refine ⟨?_⟩)
 change wpList _ _ _ _ _ ((w.alloc (.cells ds 86)).alloc (.cells zeroRt.C.toArray 83))
 generalize hw1 : ((w.alloc (.cells ds 86)).alloc (.cells zeroRt.C.toArray 83)) = w1 at *
 clear hw1
 obtain ⟨g, hg⟩ : ∃ g, g = w.heap.size := ⟨_, rfl⟩
 have HG := Lib.hid hg
 rw [← hg] at Q0 Y0 ⊢
 clear hg
 go_wp2_with ((with_reducible refine so0 ?_ ?_); (focus rfl))
 (with_reducible refine at9 ?_ ?_); (focus go_simp); refine fun K0 hK => ld_q _ g q rfl rfl Q0.out (hK _ _ ?_)
 clear hK
 go_wp2_with ((with_reducible refine so0 ?_ ?_); (focus rfl))
 refine (qright_any q _ (HQ.out.ext BW.out)).mono ?_
 rintro e w2 ⟨rfl, x2⟩
 rw [← HRQ.out]
 replace Q0 := Lib.hid (Q0.out.ext x2)
 replace Y0 := Lib.hid (Y0.out.ext x2)
 replace HIM := Lib.hid (HIM.out.ext x2)
 replace BW := Lib.hid (Ex.trans BW.out x2)
 clear x2
 cases rq
 case false =>
  go_wp2_with ((with_reducible refine so0 ?_ ?_); (focus rfl))
  (with_reducible refine at9 ?_ ?_); (focus go_simp); refine fun K0 hK => wp_build _ _ rfl _ built_err (hK _ _ ?_)
  clear hK
  go_wp2_with ((with_reducible refine so0 ?_ ?_); (focus rfl))
  (with_reducible refine at9 ?_ ?_); (focus go_simp); refine fun K0 hK => st_r _ _ (g + 1) (repRt 12 z4 0 0) rfl rfl rfl (repRt_ok (by decide) (by decide) rfl (by decide) (by decide) (by decide) (by decide)) Y0.out.2 (by rw [List.size_toArray, Rt.len Y0.out.1]) (fun w9 hd ho => hK _ _ ?_)
  clear hK
  have HD := Lib.hid hd
  have hk9 : Kt [83] 0 w2 w9 := Kt.md ho.md (Nat.zero_le _) Y0.out.2 (List.mem_singleton.2 rfl)
  have HIE := Lib.hid (HIM.out.kts9 hk9)
  have HPE := Lib.hid (show PN w9 w.heap.size (repRt 12 z4 0 0).sec from PN.onlyT (nilB_pn _ _) ho Y0.out.2 (by decide))
  have HBE := Lib.hid (show Tc (D s) (r s).ownBlock w w9 from Tc.only9 (Ex.tc _ _ BW.out) ho (by have := HG.out; omega))
  clear hd ho hk9
  go_wp2_with fail
  exact bodyPost_ret (res_r rfl _ _ (g + 1) rfl (repRt 12 z4 0 0) HD.out) rfl ⟨repRt 12 z4 0 0, r, v, rfl, HD.out.1, HPE.out, HIE.out, Or.inl ⟨HRQ.out.symm, rfl, rfl⟩, HBE.out, fun _ => Or.inl rfl⟩
 case true =>
  go_wp2_with fail
  obtain ⟨T, hT⟩ : ∃ T : List Sx, T = [.is (.pointer (some ⟨M, 0, none⟩)), .is (.pointer (some ⟨g, 1, none⟩)), .is (digV q.id), .is (.int .i64 s), .is (.pointer (some ⟨M, 0, none⟩)), .is (.pointer (some ⟨M, 0, none⟩)), .is (.pointer (some ⟨M, s, none⟩)), .is (.pointer (some ⟨D s, 0, none⟩)), .is (.pointer (some ⟨D s, 0, none⟩))] := ⟨_, rfl⟩
  have HFX : T.map Sx.fixed = [true, true, true, true, true, true, true, true, true] := by rw [hT]; rfl
  have hFst : ∀ wa wb, (fun w9 => Ex w2 w9) wa → Ex wa wb → (fun w9 => Ex w2 w9) wb := fun _ _ h k9 => Ex.trans h k9
  refine wp_region_gen (JE w2 T ([none, none, none, none, none, none, none, none, none] : List (Option Nat)) ([(8, 2), (8, 7)] : List (Nat × Nat)) 8 8 (fun w9 => Ex w2 w9)) (by kernel_rfl) (by kernel_rfl) (by kernel_rfl) (fitB_spec (by kernel_rfl)) (fun listed f h => JE.start listed f h) ?_ ?_
  ·intro i o ho
   have hi : i < 9 := (Array.getElem?_eq_some_iff.1 ho).1
   have hi' : i = 0 ∨ i = 1 ∨ i = 2 ∨ i = 3 ∨ i = 4 ∨ i = 5 ∨ i = 6 ∨ i = 7 ∨ i = 8 := by omega
   clear hi
   rcases hi' with rfl | rfl | rfl | rfl | rfl | rfl | rfl | rfl | rfl
   all_goals (simp only [List.getElem?_toArray, List.getElem?_cons_zero, List.getElem?_cons_succ, Option.some.injEq] at ho; subst ho; intro listed f a w3 hJ hsz hls hun hdep hout hlat; first | (rw [if_pos (by rfl)]; intro K hK) | skip)
   ·have q0 := hout 0 (outB_spec (by kernel_rfl))
    refine wp_mv _ rfl (hK _ _ ?_)
    rw [show a.eval (.tmp 0) = .pointer (some ⟨M, 0, none⟩) from q0]
    exact hJ.plain (by rw [hls]; decide) hFst (by decide) (Ex.refl _) (by rw [hT]; rfl) (no_head (by decide))
   ·have q3 := hout 3 (outB_spec (by kernel_rfl))
    rw [Array.getD_eq_getD_getElem?] at q3
    clear hsz hdep hout hlat
    go_simp
    exact hK _ _ (hJ.plain (by rw [hls]; decide) hFst (by decide) (Ex.refl _) (by rw [hT]; first | rfl | exact int_eq (by omega) | exact int_eq (by rw [IntKind.wrap_i64]; omega)) (no_head (by decide)))
   ·have dd16 := hdep ⟨1, .data⟩ (by simp) rfl
    have q16 := dd16.2 _ rfl _ rfl
    have h16 := hJ.vals 1 dd16.1 no_c
    rw [hT] at h16
    rw [show f 1 = .pointer (some ⟨g, 1, none⟩) from h16] at q16
    clear h16
    clear dd16
    have hcut : listed.getD 8 false = false := by
     cases hc : listed.getD 8 false with
     | false => rfl
     | true =>
      have hc0 := hJ.ord (8, 2) (by simp) hc
      exact absurd hc0 (by rw [hun]; decide)
    have hpre := hJ.pre hcut
    exact ld_qid (.tmp 16) g q rfl q16 (Q0.out.ext hpre) (hK _ _ (hJ.plain (by rw [hls]; decide) hFst (by decide) (Ex.refl _) (by rw [hT]; rfl) (no_head (by decide))))
   ·have dd17 := hdep ⟨2, .data⟩ (by simp) rfl
    have q17 := dd17.2 _ rfl _ rfl
    have h17 := hJ.vals 2 dd17.1 no_c
    rw [hT] at h17
    rw [show f 2 = digV q.id from h17] at q17
    clear h17
    clear dd17
    rw [Array.getD_eq_getD_getElem?] at q17
    clear hsz hdep hout hlat
    go_simp
    refine (iof_any q.id HQ.out.1.idN s HSH.out w3).mono ?_
    rintro e w4 ⟨rfl, x4⟩
    exact hK _ _ (hJ.plain (by rw [hls]; decide) hFst (by decide) x4 (by rw [hT]; rfl) (no_head (by decide)))
   ·have dd15 := hdep ⟨0, .data⟩ (by simp) rfl
    have q15 := dd15.2 _ rfl _ rfl
    have h15 := hJ.vals 0 dd15.1 no_c
    rw [hT] at h15
    rw [show f 0 = .pointer (some ⟨M, 0, none⟩) from h15] at q15
    clear h15
    clear dd15
    rw [Array.getD_eq_getD_getElem?] at q15
    clear hsz hdep hout hlat
    go_simp
    exact hK _ _ (hJ.plain (by rw [hls]; decide) hFst (by decide) (Ex.refl _) (by rw [hT]; first | rfl | exact int_eq (by omega) | exact int_eq (by rw [IntKind.wrap_i64]; omega)) (no_head (by decide)))
   ·have dd19 := hdep ⟨4, .data⟩ (by simp) rfl
    have q19 := dd19.2 _ rfl _ rfl
    have h19 := hJ.vals 4 dd19.1 no_c
    rw [hT] at h19
    rw [show f 4 = .pointer (some ⟨M, 0, none⟩) from h19] at q19
    clear h19
    clear dd19
    rw [Array.getD_eq_getD_getElem?] at q19
    clear hsz hdep hout hlat
    go_simp
    exact hK _ _ (hJ.plain (by rw [hls]; decide) hFst (by decide) (Ex.refl _) (by rw [hT]; first | rfl | exact int_eq (by omega) | exact int_eq (by rw [IntKind.wrap_i64]; omega)) (no_head (by decide)))
   ·have dd20 := hdep ⟨5, .data⟩ (by simp) rfl
    have q20 := dd20.2 _ rfl _ rfl
    have h20 := hJ.vals 5 dd20.1 no_c
    rw [hT] at h20
    rw [show f 5 = .pointer (some ⟨M, 0, none⟩) from h20] at q20
    clear h20
    clear dd20
    have dd18 := hdep ⟨3, .data⟩ (by simp) rfl
    have q18 := dd18.2 _ rfl _ rfl
    have h18 := hJ.vals 3 dd18.1 no_c
    rw [hT] at h18
    rw [show f 3 = .int .i64 s from h18] at q18
    clear h18
    clear dd18
    rw [Array.getD_eq_getD_getElem?] at q20 q18
    clear hsz hdep hout hlat
    go_simp
    exact hK _ _ (hJ.plain (by rw [hls]; decide) hFst (by decide) (Ex.refl _) (by rw [hT]; first | rfl | exact int_eq (by omega) | exact int_eq (by rw [IntKind.wrap_i64]; omega)) (no_head (by decide)))
   ·have dd21 := hdep ⟨6, .data⟩ (by simp) rfl
    have q21 := dd21.2 _ rfl _ rfl
    have h21 := hJ.vals 6 dd21.1 no_c
    rw [hT] at h21
    rw [show f 6 = .pointer (some ⟨M, s, none⟩) from h21] at q21
    clear h21
    clear dd21
    have hcut : listed.getD 8 false = false := by
     cases hc : listed.getD 8 false with
     | false => rfl
     | true =>
      have hc0 := hJ.ord (8, 7) (by simp) hc
      exact absurd hc0 (by rw [hun]; decide)
    have hpre := hJ.pre hcut
    have c6 : w3.cell? ⟨M, s, none⟩ = some (.pointer (some ⟨D s, 0, none⟩)) := by rw [(HIM.out.blk.ext hpre).cell, List.getElem?_toArray]; exact ptrs_at 16 D s hs16 hs16
    rw [Array.getD_eq_getD_getElem?] at q21
    clear hsz hdep hout hlat
    go_simp
    exact hK _ _ (hJ.plain (by rw [hls]; decide) hFst (by decide) (Ex.refl _) (by rw [hT]; rfl) (no_head (by decide)))
   have dd22 := hdep ⟨7, .data⟩ (by simp) rfl
   have q22 := dd22.2 _ rfl _ rfl
   have h22 := hJ.vals 7 dd22.1 no_c
   rw [hT] at h22
   rw [show f 7 = .pointer (some ⟨D s, 0, none⟩) from h22] at q22
   clear h22
   clear dd22
   have hl2 := (hdep ⟨2, .phase⟩ (by simp) rfl).1
   have hl7 := (hdep ⟨7, .data⟩ (by simp) rfl).1
   have hord : ∀ x ∈ ([(8, 2), (8, 7)] : List (Nat × Nat)), x.1 = 8 → listed.getD x.2 false = true := (by intro x hx he; simp only [List.mem_cons, List.not_mem_nil, or_false] at hx; rcases hx with rfl | rfl; all_goals first | (exact absurd he (by decide)) | assumption)
   have hcut := hun
   have hpre := hJ.pre hcut
   have hc1 : ∀ j, j ≠ 8 → ([true, true, true, true, true, true, true, true, true] : List Bool).getD j true = false → listed.getD j false = true → ∃ c, (([none, none, none, none, none, none, none, none, none] : List (Option Nat))).getD j none = some c ∧ (c = 8 ∨ listed.getD c false = true) := by
    intro j hj hfj hl
    have hm : False := by
     rcases Nat.lt_or_ge j 9 with h | h
     ·have hk : j = 0 ∨ j = 1 ∨ j = 2 ∨ j = 3 ∨ j = 4 ∨ j = 5 ∨ j = 6 ∨ j = 7 ∨ j = 8 := by omega
      rcases hk with rfl | rfl | rfl | rfl | rfl | rfl | rfl | rfl | rfl <;> first | (exact absurd hfj (by decide)) | simp
     rw [List.getD_eq_getElem?_getD, List.getElem?_eq_none (by simpa using h)] at hfj; cases hfj
    rcases hm with ⟨⟩
   rw [Array.getD_eq_getD_getElem?] at q22
   have HHD := Lib.hid @hdep
   have HC1 := Lib.hid hc1
   clear hsz hdep hout hlat hc1
   go_simp
   have hc1 := HC1.out
   exact hK _ _ (hJ.mod (by rw [hls]; decide) HFX (by rw [hT]; rfl) hc1 (Or.inl rfl) (fun _ => hpre) hord)
  intro listed f w3 hall hJ
  have f8 : f 8 = .pointer (some ⟨D s, 0, none⟩) := by
   have h := hJ.vals 8 (hall 8 (by simp)) no_c
   rw [hT] at h; exact h
  have xf : (fun w9 => Ex w2 w9) w3 := hJ.fin (hall 8 (by simp))
  simp only [putAll, Act.put, List.setIfInBounds_toArray, List.set_cons_zero, List.set_cons_succ, Nat.zero_add, Nat.reduceAdd]
  rw [f8]
  clear f8
  clear hJ hall hT HFX hFst
  replace Q0 := Lib.hid (Q0.out.ext xf)
  replace Y0 := Lib.hid (Y0.out.ext xf)
  replace HIM := Lib.hid (HIM.out.ext xf)
  replace BW := Lib.hid (Ex.trans BW.out xf)
  clear xf
  go_wp2_with ((with_reducible refine so0 ?_ ?_); (focus rfl))
  obtain ⟨c, b, hdet⟩ := get_det (v s) (idn q.id)
  have HDT := Lib.hid hdet
  clear hdet
  (with_reducible refine at9 ?_ ?_); (focus go_simp); refine fun K0 hK => ld_qid _ g q rfl rfl Q0.out (hK _ _ ?_)
  clear hK
  go_wp2_with ((with_reducible refine so0 ?_ ?_); (focus rfl))
  refine (tget_det q.id HQ.out.1.idN HDT.out _ (HIM.out.ts.tb s hs16)).mono ?_
  rintro e w4 ⟨x, rfl, h1, h2, x4⟩
  have HXC := Lib.hid h1
  have HX := Lib.hid h2
  clear h1 h2
  replace Q0 := Lib.hid (Q0.out.ext x4)
  replace Y0 := Lib.hid (Y0.out.ext x4)
  replace HIM := Lib.hid (HIM.out.ext x4)
  replace BW := Lib.hid (Ex.trans BW.out x4)
  clear x4
  go_wp2_with ((with_reducible refine so0 ?_ ?_); (focus rfl))
  (with_reducible refine at9 ?_ ?_); (focus go_simp); refine fun K0 hK => st_v _ _ w4.heap.size x rfl rfl rfl HX.out.ok (Bk.new rfl _ _) (by rfl) (fun w5 hd ho => hK _ _ ?_)
  clear hK
  have x5 : Ex w4 w5 := ho.below w4.heap.size (Nat.le_refl _) w4 (Ex.alloc w4 _)
  have VX := Lib.hid hd
  replace HX := Lib.hid (HX.out.ext x5)
  obtain ⟨h, hh⟩ : ∃ h, h = w4.heap.size := ⟨_, rfl⟩
  rw [← hh] at VX ⊢
  clear hd ho hh
  replace Q0 := Lib.hid (Q0.out.ext x5)
  replace Y0 := Lib.hid (Y0.out.ext x5)
  replace HIM := Lib.hid (HIM.out.ext x5)
  replace BW := Lib.hid (Ex.trans BW.out x5)
  clear x5
  go_wp2_with ((with_reducible refine so0 ?_ ?_); (focus rfl))
  (with_reducible refine at9 ?_ ?_); (focus go_simp); refine fun K0 hK => ld_v _ h x rfl rfl VX.out (hK _ _ ?_)
  clear hK
  go_wp2_with ((with_reducible refine so0 ?_ ?_); (focus rfl))
  (with_reducible refine at9 ?_ ?_); (focus go_simp); refine fun K0 hK => ld_q _ g q rfl rfl Q0.out (hK _ _ ?_)
  clear hK
  go_wp2_with ((with_reducible refine so0 ?_ ?_); (focus rfl))
  refine (do_any x q _ HX.out.vi (HQ.out.ext BW.out)).mono ?_
  rintro e w6 ⟨x2, y2, b2, rfl, hz, h1, h2, h3, x6⟩
  rw [HXC.out] at hz
  have HZ := Lib.hid hz
  have HX2 := Lib.hid h1
  have HY2 := Lib.hid h2
  have HS2 := Lib.hid (h3.less (Below.size BW.out))
  clear hz h1 h2 h3 HX VX
  replace Q0 := Lib.hid (Q0.out.ext x6)
  replace Y0 := Lib.hid (Y0.out.ext x6)
  replace HIM := Lib.hid (HIM.out.ext x6)
  replace BW := Lib.hid (Ex.trans BW.out x6)
  clear x6
  go_wp2_with ((with_reducible refine so0 ?_ ?_); (focus rfl))
  (with_reducible refine ⟨?_⟩)
  change wpList _ _ _ _ _ ((w6.alloc (.cells zeroVt.C.toArray 36)).alloc (.cells zeroRt.C.toArray 83))
  have X6 : Hid (Ex w6 ((w6.alloc (.cells zeroVt.C.toArray 36)).alloc (.cells zeroRt.C.toArray 83))) := Lib.hid (Ex.trans (Ex.alloc w6 _) (Ex.alloc _ _))
  have A8 : Hid (VB ((w6.alloc (.cells zeroVt.C.toArray 36)).alloc (.cells zeroRt.C.toArray 83)) w6.heap.size zeroVt) := Lib.hid ⟨zeroVt_ok, (Bk.new rfl _ _).more _⟩
  have A9 : Hid (RB ((w6.alloc (.cells zeroVt.C.toArray 36)).alloc (.cells zeroRt.C.toArray 83)) (w6.heap.size + 1) zeroRt) := Lib.hid ⟨zeroRt_ok, Bk.new (by simp) _ _⟩
  generalize hw7 : ((w6.alloc (.cells zeroVt.C.toArray 36)).alloc (.cells zeroRt.C.toArray 83)) = w7 at *
  clear hw7
  obtain ⟨h8, hh⟩ : ∃ h, h = w6.heap.size := ⟨_, rfl⟩
  have HH := Lib.hid hh
  rw [← hh] at A8 A9 ⊢
  clear hh
  go_wp2_with ((with_reducible refine so0 ?_ ?_); (focus rfl))
  (with_reducible refine at9 ?_ ?_); (focus go_simp); refine fun K0 hK => st_v _ _ h8 x2 rfl rfl rfl HX2.out.1 A8.out.2 (by rw [List.size_toArray, Vt.len zeroVt_ok]) (fun w8 hd ho => hK _ _ ?_)
  clear hK
  replace X6 := Lib.hid (ho.below w6.heap.size (Nat.le_of_eq HH.out.symm) w6 X6.out)
  replace A9 := Lib.hid (ho.rb A9.out (by omega))
  replace A8 := Lib.hid hd
  clear hd ho
  go_wp2_with ((with_reducible refine so0 ?_ ?_); (focus rfl))
  (with_reducible refine at9 ?_ ?_); (focus go_simp); refine fun K0 hK => st_r _ _ (h8 + 1) y2 rfl rfl rfl HY2.out A9.out.2 (by rw [List.size_toArray, Rt.len zeroRt_ok]) (fun w9 hd ho => hK _ _ ?_)
  clear hK
  replace X6 := Lib.hid (ho.below w6.heap.size (by have := HH.out; omega) w6 X6.out)
  replace A8 := Lib.hid (ho.vb A8.out (by omega))
  replace A9 := Lib.hid hd
  clear hd ho
  have x9 := X6.out
  replace HX2 := Lib.hid (HX2.out.ext x9)
  replace HS2 := Lib.hid (HS2.out.ext x9)
  clear X6 HH
  replace Q0 := Lib.hid (Q0.out.ext x9)
  replace Y0 := Lib.hid (Y0.out.ext x9)
  replace HIM := Lib.hid (HIM.out.ext x9)
  replace BW := Lib.hid (Ex.trans BW.out x9)
  clear x9
  cases b2
  case false =>
   go_wp2_with ((with_reducible refine so0 ?_ ?_); (focus rfl))
   (with_reducible refine at9 ?_ ?_); (focus go_simp); refine fun K0 hK => ld_r _ (h8 + 1) y2 rfl rfl A9.out (hK _ _ ?_)
   clear hK
   go_wp2_with ((with_reducible refine so0 ?_ ?_); (focus rfl))
   (with_reducible refine at9 ?_ ?_); (focus go_simp); refine fun K0 hK => st_r _ _ (g + 1) (y2) rfl rfl rfl HY2.out Y0.out.2 (by rw [List.size_toArray, Rt.len Y0.out.1]) (fun wz hd ho => hK _ _ ?_)
   clear hK
   have HD := Lib.hid hd
   have hk9 : Kt [83] 0 w9 wz := Kt.md ho.md (Nat.zero_le _) Y0.out.2 (List.mem_singleton.2 rfl)
   have HIE := Lib.hid (HIM.out.kts9 hk9)
   have HPE := Lib.hid (show PN wz w.heap.size (y2).sec from PN.onlyT (HS2.out) ho Y0.out.2 (by decide))
   have HBE := Lib.hid (show Tc (D s) (r s).ownBlock w wz from Tc.only9 (Ex.tc _ _ BW.out) ho (by have := HG.out; omega))
   clear hd ho hk9
   go_wp2_with fail
   exact bodyPost_ret (res_r rfl _ _ (g + 1) rfl (y2) HD.out) rfl ⟨y2, r, v, rfl, HD.out.1, HPE.out, HIE.out, Or.inr ⟨HRQ.out.symm, c, b, HDT.out, Or.inl ⟨by rw [← HZ.out], by rw [← HZ.out], rfl⟩⟩, HBE.out, fun _ => Or.inl rfl⟩
  case true =>
   obtain ⟨n, hn⟩ : ∃ n, n = (v s).length := ⟨_, rfl⟩
   have HN := Lib.hid hn
   clear hn
   cases b
   case true =>
    go_wp2_with ((with_reducible refine so0 ?_ ?_); (focus rfl))
    repeat ((with_reducible refine at8 ?_ ?_); (focus (go_simp; done)); go_wp2_with ((with_reducible refine so0 ?_ ?_); (focus rfl)))
    (with_reducible refine at9 ?_ ?_); (focus go_simp); refine fun K0 hK => ld_v _ h8 x2 rfl rfl A8.out (hK _ _ ?_)
    clear hK
    go_wp2_with ((with_reducible refine so0 ?_ ?_); (focus rfl))
    refine (tput_any (D s) (r s) (v s) x2 w9 (HIM.out.ts.tb s hs16) HX2.out.vi).mono ?_
    rintro e wp hp
    obtain ⟨n9, r9, ls, rfl, p1, p2, p3, p4⟩ := put_im HIM.out hs16 hp
    have hsz9 := BW.out.sz
    have HLI : Hid (∀ i, Lies w (r i) (updF r s r9 i)) := Lib.hid (fun i => by
     by_cases e : i = s
     ·subst e; rw [updF_same]; exact p4.imp id (fun h g hg => Nat.le_trans hsz9 (h g hg))
     rw [updF_ne _ _ e]; exact Or.inl rfl)
    have ht9 := HIM.out.ts.tb s hs16
    have hlo := HIM.out.ts.lo s hs16
    have HBW := Lib.hid (show Tc (D s) (r s).ownBlock w wp from (Ex.tc _ _ BW.out).trans p3 (Or.inl rfl))
    replace A9 := Lib.hid (show RB wp (h8 + 1) y2 from ⟨HY2.out, p3.kt9 ht9 A9.out.2 (by decide) (by decide)⟩)
    replace Y0 := Lib.hid (show RB wp (g + 1) zeroRt from ⟨zeroRt_ok, p3.kt9 ht9 Y0.out.2 (by decide) (by decide)⟩)
    replace HS2 := Lib.hid (HS2.out.tc9 p3 ht9)
    replace HIM := Lib.hid p2
    have HPR := Lib.hid p1
    clear hp p1 p2 p3 p4 hsz9 ht9 hlo HX2 A8
    go_wp2_with ((with_reducible refine so0 ?_ ?_); (focus rfl))
    (with_reducible refine at9 ?_ ?_); (focus go_simp); refine fun K0 hK => ld_r _ (h8 + 1) y2 rfl rfl A9.out (hK _ _ ?_)
    clear hK
    go_wp2_with ((with_reducible refine so0 ?_ ?_); (focus rfl))
    (with_reducible refine at9 ?_ ?_); (focus go_simp); refine fun K0 hK => st_r _ _ (g + 1) (y2) rfl rfl rfl HY2.out Y0.out.2 (by rw [List.size_toArray, Rt.len Y0.out.1]) (fun wz hd ho => hK _ _ ?_)
    clear hK
    have HD := Lib.hid hd
    have hk9 : Kt [83] 0 wp wz := Kt.md ho.md (Nat.zero_le _) Y0.out.2 (List.mem_singleton.2 rfl)
    have HIE := Lib.hid (HIM.out.kts9 hk9)
    have HPE := Lib.hid (show PN wz w.heap.size (y2).sec from PN.onlyT (HS2.out) ho Y0.out.2 (by decide))
    have HBE := Lib.hid (show Tc (D s) (r s).ownBlock w wz from Tc.only9 (HBW.out) ho (by have := HG.out; omega))
    clear hd ho hk9
    go_wp2_with fail
    exact bodyPost_ret (res_r rfl _ _ (g + 1) rfl (y2) HD.out) rfl ⟨y2, _, _, rfl, HD.out.1, HPE.out, HIE.out, Or.inr ⟨HRQ.out.symm, c, _, HDT.out, Or.inr (Or.inr ⟨by rw [← HZ.out], Or.inl rfl, by rw [← HZ.out], x2, ls, by rw [← HZ.out], HPR.out, rfl⟩)⟩, HBE.out, HLI.out⟩
   case false =>
    go_wp2_with ((with_reducible refine so0 ?_ ?_); (focus rfl))
    refine (tlen_any (D s) (r s) (v s) w9 (HIM.out.ts.tb s hs16)).mono ?_
    rintro e w10 ⟨rfl, rfl⟩
    rw [← HN.out]
    by_cases hf : 4 ≤ n
    ·have q2 : (4 : Int) ≤ (n : Int) := by omega
     go_wp2_with ((with_reducible refine so0 ?_ ?_); (focus rfl))
     (with_reducible refine at9 ?_ ?_); (focus go_simp); refine fun K0 hK => ld_qid _ g q rfl rfl Q0.out (hK _ _ ?_)
     clear hK
     obtain ⟨e0, e21, e22, e55, e56⟩ := Q0.out.cells
     go_wp2_with ((with_reducible refine so0 ?_ ?_); (focus rfl))
     (with_reducible refine at9 ?_ ?_); (focus go_simp); refine fun K0 hK => wp_build _ _ rfl _ (built_full q.id q.client q.num HQ.out.1.idN) (hK _ _ ?_)
     clear hK
     go_wp2_with ((with_reducible refine so0 ?_ ?_); (focus rfl))
     have hqk := HQ.out.1
     (with_reducible refine at9 ?_ ?_); (focus go_simp); refine fun K0 hK => st_r _ _ (g + 1) (repRt 13 q.id q.client q.num) rfl rfl rfl (repRt_ok (by decide) (by decide) hqk.idN (by first | exact hqk.client0 | exact hqk.cl0) (by first | exact hqk.client1 | exact hqk.cl1) (by exact hqk.num0) (by exact hqk.num1)) Y0.out.2 (by rw [List.size_toArray, Rt.len Y0.out.1]) (fun wz hd ho => hK _ _ ?_)
     clear hK
     have HD := Lib.hid hd
     have hk9 : Kt [83] 0 w9 wz := Kt.md ho.md (Nat.zero_le _) Y0.out.2 (List.mem_singleton.2 rfl)
     have HIE := Lib.hid (HIM.out.kts9 hk9)
     have HPE := Lib.hid (show PN wz w.heap.size (repRt 13 q.id q.client q.num).sec from PN.onlyT (nilB_pn _ _) ho Y0.out.2 (by decide))
     have HBE := Lib.hid (show Tc (D s) (r s).ownBlock w wz from Tc.only9 (Ex.tc _ _ BW.out) ho (by have := HG.out; omega))
     clear hd ho hk9
     go_wp2_with fail
     exact bodyPost_ret (res_r rfl _ _ (g + 1) rfl (repRt 13 q.id q.client q.num) HD.out) rfl ⟨repRt 13 q.id q.client q.num, r, v, rfl, HD.out.1, HPE.out, HIE.out, Or.inr ⟨HRQ.out.symm, c, false, HDT.out, Or.inr (Or.inl ⟨by rw [← HZ.out], rfl, by rw [← HN.out]; exact hf, rfl, rfl⟩)⟩, HBE.out, fun _ => Or.inl rfl⟩
    have q2 : ¬ (4 : Int) ≤ (n : Int) := by omega
    have q3 : (n : Int) < 4 := by omega
    go_wp2_with ((with_reducible refine so0 ?_ ?_); (focus rfl))
    (with_reducible refine at9 ?_ ?_); (focus go_simp); refine fun K0 hK => ld_v _ h8 x2 rfl rfl A8.out (hK _ _ ?_)
    clear hK
    go_wp2_with ((with_reducible refine so0 ?_ ?_); (focus rfl))
    refine (tput_any (D s) (r s) (v s) x2 w9 (HIM.out.ts.tb s hs16) HX2.out.vi).mono ?_
    rintro e wp hp
    obtain ⟨n9, r9, ls, rfl, p1, p2, p3, p4⟩ := put_im HIM.out hs16 hp
    have hsz9 := BW.out.sz
    have HLI : Hid (∀ i, Lies w (r i) (updF r s r9 i)) := Lib.hid (fun i => by
     by_cases e : i = s
     ·subst e; rw [updF_same]; exact p4.imp id (fun h g hg => Nat.le_trans hsz9 (h g hg))
     rw [updF_ne _ _ e]; exact Or.inl rfl)
    have ht9 := HIM.out.ts.tb s hs16
    have hlo := HIM.out.ts.lo s hs16
    have HBW := Lib.hid (show Tc (D s) (r s).ownBlock w wp from (Ex.tc _ _ BW.out).trans p3 (Or.inl rfl))
    replace A9 := Lib.hid (show RB wp (h8 + 1) y2 from ⟨HY2.out, p3.kt9 ht9 A9.out.2 (by decide) (by decide)⟩)
    replace Y0 := Lib.hid (show RB wp (g + 1) zeroRt from ⟨zeroRt_ok, p3.kt9 ht9 Y0.out.2 (by decide) (by decide)⟩)
    replace HS2 := Lib.hid (HS2.out.tc9 p3 ht9)
    replace HIM := Lib.hid p2
    have HPR := Lib.hid p1
    clear hp p1 p2 p3 p4 hsz9 ht9 hlo HX2 A8
    go_wp2_with ((with_reducible refine so0 ?_ ?_); (focus rfl))
    (with_reducible refine at9 ?_ ?_); (focus go_simp); refine fun K0 hK => ld_r _ (h8 + 1) y2 rfl rfl A9.out (hK _ _ ?_)
    clear hK
    go_wp2_with ((with_reducible refine so0 ?_ ?_); (focus rfl))
    (with_reducible refine at9 ?_ ?_); (focus go_simp); refine fun K0 hK => st_r _ _ (g + 1) (y2) rfl rfl rfl HY2.out Y0.out.2 (by rw [List.size_toArray, Rt.len Y0.out.1]) (fun wz hd ho => hK _ _ ?_)
    clear hK
    have HD := Lib.hid hd
    have hk9 : Kt [83] 0 wp wz := Kt.md ho.md (Nat.zero_le _) Y0.out.2 (List.mem_singleton.2 rfl)
    have HIE := Lib.hid (HIM.out.kts9 hk9)
    have HPE := Lib.hid (show PN wz w.heap.size (y2).sec from PN.onlyT (HS2.out) ho Y0.out.2 (by decide))
    have HBE := Lib.hid (show Tc (D s) (r s).ownBlock w wz from Tc.only9 (HBW.out) ho (by have := HG.out; omega))
    clear hd ho hk9
    go_wp2_with fail
    exact bodyPost_ret (res_r rfl _ _ (g + 1) rfl (y2) HD.out) rfl ⟨y2, _, _, rfl, HD.out.1, HPE.out, HIE.out, Or.inr ⟨HRQ.out.symm, c, _, HDT.out, Or.inr (Or.inr ⟨by rw [← HZ.out], Or.inr (by rw [← HN.out]; omega), by rw [← HZ.out], x2, ls, by rw [← HZ.out], HPR.out, rfl⟩)⟩, HBE.out, HLI.out⟩
theorem ido_any (B M : Nat) (D : Nat → Nat) (r : Nat → Value) (v : Nat → List Vt) (q : Qt) (s : Nat) (hs : Sm.shV q.id = (s : Int)) (hs16 : s < 16) (w : World) (h : IM w B M D r v) (hB : B ≤ M) (hq : QI w q) : Calls Try.prog 39 #[.pointer (some ⟨M, 0, none⟩), q.V] w (IDoPost B M D r v s q.ct w) :=
 (ido2_any B M D r v q s hs hs16 w h hB hq).mono fun e w' ⟨y, r', v', h1, h2, h3, h4, h5, h6, _⟩ => ⟨y, r', v', h1, h2, h3, h4, h5, h6⟩
end Go.Proofs.Ytmjfnpmnhehnkaa
namespace Go.Proofs.Ytmjfnpmnhehnkaa
open Go.RowKit
def RightV (v : Nat → List Vt) : Prop := ∀ i, i < 16 → ∀ (j : Nat) (x : Vt), (v i)[j]? = some x → x.ct.right = true
theorem RightV.none {v : Nat → List Vt} (h : ∀ i, i < 16 → v i = []) : RightV v := fun i hi j x hx => by rw [h i hi] at hx; simp at hx
theorem RightV.ct {v v2 : Nat → List Vt} (h : ∀ i, i < 16 → (v2 i).map Vt.ct = (v i).map Vt.ct) (hr : RightV v) : RightV v2 := fun i hi j x hx => by
 have e : ((v2 i).map Vt.ct)[j]? = ((v i).map Vt.ct)[j]? := by rw [h i hi]
 rw [List.getElem?_map, List.getElem?_map, hx] at e
 cases hy : (v i)[j]? with
 | none => rw [hy] at e; cases e
 | some y =>
  rw [hy] at e
  have e : x.ct = y.ct := by simpa using e
  rw [e]; exact hr i hi j y hy
theorem PutRel.right {vs ls : List Vt} {x : Vt} (h : PutRel vs x ls) (hv : ∀ (j : Nat) (y : Vt), vs[j]? = some y → y.ct.right = true) (j : Nat) (y : Vt) (hy : ls[j]? = some y) : y.ct.right = true := by
 have mem : ∀ y ∈ vs, y.ct.right = true := fun y hm => by
  obtain ⟨i, hi, e⟩ := List.getElem_of_mem hm
  exact hv i y (by rw [List.getElem?_eq_getElem hi, e])
 rcases h with ⟨_, rfl⟩ | ⟨hx, p, z, _, hz, ⟨_, _, rfl⟩ | ⟨_, _, rfl⟩ | ⟨_, _, rfl⟩⟩
 ·exact hv j y hy
 ·rcases List.mem_or_eq_of_mem_set (List.mem_of_getElem? hy) with hm | rfl
  ·exact mem y hm
  rw [hz]; exact hx
 ·exact hv j y hy
 rcases List.mem_append.1 (List.mem_of_getElem? hy) with hm | hm
 ·exact mem y (List.mem_of_mem_take hm)
 rcases List.mem_cons.1 hm with rfl | hm
 ·rw [hz]; exact hx
 exact mem y (List.mem_of_mem_drop hm)
theorem IStep.right {v v' : Nat → List Vt} {s : Nat} {q : Qc} {y : Rc} (h : IStep v s q y v') (hs : s < 16) (hr : RightV v) : RightV v' := by
 rcases h with ⟨_, _, rfl⟩ | ⟨_, c, b, _, ⟨_, _, rfl⟩ | ⟨_, _, _, _, rfl⟩ | ⟨_, _, _, x, ls, _, hp, rfl⟩⟩
 ·exact hr
 ·exact hr
 ·exact hr
 intro i hi j y hy
 by_cases e : i = s
 ·subst e; rw [updF_same] at hy; exact hp.right (hr i hi) j y hy
 rw [updF_ne _ _ e] at hy; exact hr i hi j y hy
/-- two ideal maps with no block in common -/
structure Apart (D : Nat → Nat) (r : Nat → Value) (D2 : Nat → Nat) (r2 : Nat → Value) : Prop where
 dd : ∀ i j, i < 16 → j < 16 → D i ≠ D2 j
 rr : ∀ i j, i < 16 → j < 16 → Djn (r i) (r2 j)
/-- a map that is not the one turned stays -/
theorem IM.other {w w' : World} {B M B2 M2 s : Nat} {D D2 : Nat → Nat} {r r2 : Nat → Value} {v v2 : Nat → List Vt} (h : IM w B M D r v) (h2 : IM w B2 M2 D2 r2 v2) (hs : s < 16) (k : Tc (D s) (r s).ownBlock w w') (ha : Apart D r D2 r2) : IM w' B2 M2 D2 r2 v2 :=
 ⟨k.kt9 (h.ts.tb s hs) h2.blk (by decide) (by decide), ⟨fun i hi => (h2.ts.tb i hi).other (h.ts.tb s hs) k (fun e => ha.dd s i hs hi e.symm) (ha.rr s i hs hi).symm, h2.ts.lo, h2.ts.dd, h2.ts.rr⟩⟩
/-- a map made later is apart from one that was there -/
theorem IM.apart {w w' : World} {B M B2 M2 : Nat} {D D2 : Nat → Nat} {r r2 : Nat → Value} {v v2 : Nat → List Vt} (h : IM w B M D r v) (h2 : IM w' B2 M2 D2 r2 v2) (hB : w.heap.size ≤ B2) : Apart D r D2 r2 := by
 refine ⟨fun i j hi hj e => ?_, fun i j hi hj g hg hg2 => ?_⟩
 ·have h3 := (h.ts.tb i hi).blk.lt
  have h4 := h2.ts.lo j hj
  omega
 have h3 := ((h.ts.tb i hi).row.row.lt g hg).2
 have h4 := ((h2.ts.tb j hj).row.row.lt g hg2).1
 have h5 := h2.ts.lo j hj
 omega
end Go.Proofs.Ytmjfnpmnhehnkaa
namespace Go.Proofs.Ytmjfnpmnhehnkaa
open Go.RowKit
structure JS (T : List (Value → Prop)) (prs : List (Nat × Nat)) (St : Array Bool → (Nat → Value) → World → Prop) (listed : Array Bool) (f : Nat → Value) (w : World) : Prop where
 vals : ∀ i, listed.getD i false = true → (T.getD i (fun _ => True)) (f i)
 st : St listed f w
 ord : ∀ x ∈ prs, listed.getD x.1 false = true → listed.getD x.2 false = true
section
variable {T : List (Value → Prop)} {prs : List (Nat × Nat)} {St : Array Bool → (Nat → Value) → World → Prop}
theorem JS.start {w : World} (listed : Array Bool) (f : Nat → Value) (h0 : ∀ i, listed.getD i false = false) (hs : St listed f w) : JS T prs St listed f w :=
 ⟨fun i hi => absurd hi (by rw [h0 i]; decide), hs, fun x _ hx => absurd hx (by rw [h0 x.1]; decide)⟩
theorem JS.next {listed : Array Bool} {f : Nat → Value} {w w' : World} (h : JS T prs St listed f w) {i : Nat} (hi : i < listed.size) {v : Value} (hv : (T.getD i (fun _ => True)) v) (hs : St (listed.setIfInBounds i true) (upd f i v) w') (ho : ∀ x ∈ prs, x.1 = i → listed.getD x.2 false = true) :
  JS T prs St (listed.setIfInBounds i true) (upd f i v) w' := by
 have mono : ∀ c, listed.getD c false = true → (listed.setIfInBounds i true).getD c false = true := fun c hc => by
  by_cases e : i = c
  ·subst e; exact set_new hi
  rw [gset e false]; exact hc
 refine ⟨fun j hj => ?_, hs, fun x hx h1 => ?_⟩
 ·by_cases e : j = i
  ·subst e; rw [upd_same]; exact hv
  rw [upd_ne _ _ e]
  refine h.vals j ?_
  rcases listed_set hj with rfl | hj
  ·exact absurd rfl e
  exact hj
 rcases listed_set h1 with e | h1
 ·exact mono _ (ho x hx e)
 exact mono _ (h.ord x hx h1)
/-- what a temporary is, by the value that is known of its operation -/
theorem JS.is {TT : List (Value → Prop)} {listed : Array Bool} {f : Nat → Value} {w : World} (h : JS T prs St listed f w) (hT : T = TT) {j : Nat} {ops : Array Oper} {tm : Array Value} (hd : listed.getD j false = true ∧ ∀ oj, ops[j]? = some oj → ∀ t, oj.dst = some t → tm.getD t undef = f j) {V : Value} (hV : TT.getD j (fun _ => True) = fun zz => zz = V) (oj : Oper) (ho : ops[j]? = some oj) (t : Tmp) (ht : oj.dst = some t) : tm.getD t undef = V := by
 have h1 := h.vals j hd.1
 rw [hT, hV] at h1
 rw [hd.2 oj ho t ht]; exact h1
/-- what is listed at the end -/
theorem JS.last {listed : Array Bool} {f : Nat → Value} {w : World} (h : JS T prs St listed f w) {i : Nat} (hi : listed.getD i false = true) : (T.getD i (fun _ => True)) (f i) := h.vals i hi
end
def k3q (g : Nat) : Qt := ⟨1, [1, 0, 0, 0], z16, ⟨some ⟨g, 0, none⟩, 1, [115]⟩, 2, z16, z16, 0, 0⟩
def k3r : Qt := ⟨2, [2, 0, 0, 0], z16, nilB, 0, z16, z16, 0, 0⟩
def k3z : Vc := (doC zeroVc (k3q 0).ct).1
end Go.Proofs.Ytmjfnpmnhehnkaa
