/- VaultGens walked -/
import Derived.Test.YtedljddjmojeeaaVk
namespace Go.Proofs.Ytedljddjmojeeaa
open Go.RowKit
/-- a row of what is drawn for requests -/
structure Kp.In (ad : Option Addr) (cap : Nat) (l : List Kq) (w : World) : Prop where
  len : l.length ≤ cap
  nil : ad = none → cap = 0
  ins : ∀ (i : Nat) (x : Kq), l[i]? = some x → x.In w
  read : 0 < l.length → ∃ a o, ad = some ⟨a, o, none⟩ ∧ a < w.heap.size ∧ ∀ (i : Nat) (x : Kq), l[i]? = some x → w.rangeAt a (o + i * 8) x.C
theorem Kp.In.ext {ad : Option Addr} {cap : Nat} {l : List Kq} {w w' : World} (h : Kp.In ad cap l w) (k : Ex w w') : Kp.In ad cap l w' :=
  ⟨h.len, h.nil, fun i x hx => (h.ins i x hx).ext k, fun h0 => by
    obtain ⟨a, o, e, hB, hc⟩ := h.read h0
    exact ⟨a, o, e, Nat.lt_of_lt_of_le hB k.sz, fun i x hx j v hv => (Below.cell (p := ⟨a, o + i * 8 + j, none⟩) k hB).trans (hc i x hx j v hv)⟩⟩
theorem Try.sizeKq : (Try.prog.info? 36).map (·.size) = some 8 := by kernel_rfl
theorem ld_k {o : Oper} {a : Act} {w : World} {K : Act → World → Prop} {Q : Exit → Act → World → Prop} (y : Operand) (g off : Nat) (x : Kq) (ho : o.op = .load 36 y) (ha : a.eval y = .pointer (some ⟨g, off, none⟩)) (h : w.rangeAt g off x.C) (hk : K (a.put o.dst x.V) w) : o.wp Try.prog a w K Q := by
  obtain ⟨dd, hd⟩ : ∃ d, Try.prog.underlying 36 = some d ∧ d.isRow = true := ⟨_, Try.underlying36, rfl⟩
  exact wp_load_mid 36 y ho g off ha x.C dd h hd.1 hd.2 (by rw [Try.sizeKq]; rfl) hk
def id7 : List UInt8 := [7, 0, 0, 0]
set_option maxHeartbeats 4000000 in
set_option maxRecDepth 100000 in
theorem gens_any (ad : Option Addr) (cap : Nat) (l : List Kq) (hL : l.length ≤ 9223372036854775807) (w : World) (hin : Kp.In ad cap l w) : Calls Try.prog 4 #[.slice ad l.length cap] w fun e w' => e = .returned (.bool true) ∧ Ex w w' := by
  have HIN := Lib.hid hin
  obtain ⟨n, hn⟩ : ∃ n, n = l.length := ⟨_, rfl⟩
  rw [← hn] at hL ⊢
  have HN := Lib.hid hn
  clear hn hin
  go_enter Try.func4, Try.ntmps4
  go_wp2_with (first | (with_reducible refine stop_load (t := 30) ?_) | (with_reducible refine stop_store (t := 30) ?_) | (with_reducible refine stop_load (t := 33) ?_) | (with_reducible refine stop_store (t := 33) ?_) | (with_reducible refine stop_load (t := 39) ?_) | (with_reducible refine stop_store (t := 39) ?_) | (with_reducible refine stop_load (t := 27) ?_) | (with_reducible refine stop_store (t := 27) ?_) | (with_reducible refine stop_load (t := 24) ?_) | (with_reducible refine stop_store (t := 24) ?_) | (with_reducible refine stop_build ?_) | (with_reducible refine stop_eql (t := 27) ?_) | (with_reducible refine stop_neq (t := 27) ?_) | (with_reducible refine stop_eql (t := 24) ?_) | (with_reducible refine stop_neq (t := 24) ?_) | (with_reducible refine stop_load (t := 36) ?_))
  (with_reducible refine ⟨?_⟩); (with_reducible refine at_any ?_ ?_); (focus go_simp); refine fun K0 hK => wp_build _ _ rfl _ built_zero (hK _ _ ?_)
  clear hK
  go_wp2_with (first | (with_reducible refine stop_load (t := 30) ?_) | (with_reducible refine stop_store (t := 30) ?_) | (with_reducible refine stop_load (t := 33) ?_) | (with_reducible refine stop_store (t := 33) ?_) | (with_reducible refine stop_load (t := 39) ?_) | (with_reducible refine stop_store (t := 39) ?_) | (with_reducible refine stop_load (t := 27) ?_) | (with_reducible refine stop_store (t := 27) ?_) | (with_reducible refine stop_load (t := 24) ?_) | (with_reducible refine stop_store (t := 24) ?_) | (with_reducible refine stop_build ?_) | (with_reducible refine stop_eql (t := 27) ?_) | (with_reducible refine stop_neq (t := 27) ?_) | (with_reducible refine stop_eql (t := 24) ?_) | (with_reducible refine stop_neq (t := 24) ?_) | (with_reducible refine stop_load (t := 36) ?_))
  (with_reducible refine ⟨?_⟩); (with_reducible refine at_any ?_ ?_); (focus go_simp); refine fun K0 hK => st_v _ _ w.heap.size zeroVt rfl rfl rfl zeroVt_ok (Bk.new rfl _ _) (by rfl) (fun w2 hd ho => hK _ _ ?_)
  clear hK
  have x2 : Ex w w2 := ho.below w.heap.size (Nat.le_refl _) w (Ex.alloc w _)
  obtain ⟨B, hB⟩ : ∃ B, B = w.heap.size := ⟨_, rfl⟩
  rw [← hB] at hd ⊢
  have HB := Lib.hid hB
  have V0 := Lib.hid hd
  have BW := Lib.hid x2
  clear hB hd ho x2
  go_wp2_with (first | (with_reducible refine stop_load (t := 30) ?_) | (with_reducible refine stop_store (t := 30) ?_) | (with_reducible refine stop_load (t := 33) ?_) | (with_reducible refine stop_store (t := 33) ?_) | (with_reducible refine stop_load (t := 39) ?_) | (with_reducible refine stop_store (t := 39) ?_) | (with_reducible refine stop_load (t := 27) ?_) | (with_reducible refine stop_store (t := 27) ?_) | (with_reducible refine stop_load (t := 24) ?_) | (with_reducible refine stop_store (t := 24) ?_) | (with_reducible refine stop_build ?_) | (with_reducible refine stop_eql (t := 27) ?_) | (with_reducible refine stop_neq (t := 27) ?_) | (with_reducible refine stop_eql (t := 24) ?_) | (with_reducible refine stop_neq (t := 24) ?_) | (with_reducible refine stop_load (t := 36) ?_))
  go_loopw [4] (fun i wr => ∃ (k : Nat) (v : Vt), k ≤ n ∧ i = .int .i64 k ∧ Hid (VB wr B v) ∧ Hid (VN wr (B + 1) v) ∧ Hid (Kept id7 v.ct) ∧ Hid (Ex w wr)) (fun i _ => n - (intOf i).toNat)
  case atStart => exact ⟨0, zeroVt, by omega, rfl, V0, Lib.hid ⟨zeroVt_ok, nilB_pn _ _⟩, Lib.hid (Or.inl rfl), BW⟩
  case round =>
    clear V0 BW
    obtain ⟨k, v, hk, rfl, V0, VN0, KP, BW⟩ := hrel
    by_cases hlt : k < n ∧ k < 60
    · obtain ⟨h1, h2⟩ := hlt
      obtain ⟨a, o, rfl, ha, hc⟩ := HIN.out.read (by rw [← HN.out]; omega)
      obtain ⟨x, hx⟩ : ∃ x, l[k]? = some x := ⟨_, List.getElem?_eq_getElem (by rw [← HN.out]; exact h1)⟩
      have XI := Lib.hid ((HIN.out.ins k x hx).ext BW.out)
      have XR : Hid (wr.rangeAt a (o + k * 8) x.C) := Lib.hid (fun j u hu => (Below.cell (p := ⟨a, o + k * 8 + j, none⟩) BW.out ha).trans (hc k x hx j u hu))
      clear hc hx ha
      have q0 : (0 : Int) ≤ (k : Int) := by omega
      have q1 : (k : Int) < (n : Int) := by omega
      have q2 : (k : Int) < 60 := by omega
      go_wp2_with (first | (with_reducible refine stop_load (t := 30) ?_) | (with_reducible refine stop_store (t := 30) ?_) | (with_reducible refine stop_load (t := 33) ?_) | (with_reducible refine stop_store (t := 33) ?_) | (with_reducible refine stop_load (t := 39) ?_) | (with_reducible refine stop_store (t := 39) ?_) | (with_reducible refine stop_load (t := 27) ?_) | (with_reducible refine stop_store (t := 27) ?_) | (with_reducible refine stop_load (t := 24) ?_) | (with_reducible refine stop_store (t := 24) ?_) | (with_reducible refine stop_build ?_) | (with_reducible refine stop_eql (t := 27) ?_) | (with_reducible refine stop_neq (t := 27) ?_) | (with_reducible refine stop_eql (t := 24) ?_) | (with_reducible refine stop_neq (t := 24) ?_) | (with_reducible refine stop_load (t := 36) ?_))
      (with_reducible refine ⟨?_⟩); (with_reducible refine at_any ?_ ?_); (focus go_simp); refine fun K0 hK => ld_k _ a (o + k * 8) x rfl rfl XR.out (hK _ _ ?_)
      clear hK
      go_wp2_with (first | (with_reducible refine stop_load (t := 30) ?_) | (with_reducible refine stop_store (t := 30) ?_) | (with_reducible refine stop_load (t := 33) ?_) | (with_reducible refine stop_store (t := 33) ?_) | (with_reducible refine stop_load (t := 39) ?_) | (with_reducible refine stop_store (t := 39) ?_) | (with_reducible refine stop_load (t := 27) ?_) | (with_reducible refine stop_store (t := 27) ?_) | (with_reducible refine stop_load (t := 24) ?_) | (with_reducible refine stop_store (t := 24) ?_) | (with_reducible refine stop_build ?_) | (with_reducible refine stop_eql (t := 27) ?_) | (with_reducible refine stop_neq (t := 27) ?_) | (with_reducible refine stop_eql (t := 24) ?_) | (with_reducible refine stop_neq (t := 24) ?_) | (with_reducible refine stop_load (t := 36) ?_))
      refine (req_any x wr XI.out).mono ?_
      rintro e w3 ⟨q, rfl, hqi, hqr, xx⟩
      have QI0 := Lib.hid hqi
      have QS := Lib.hid hqi.sec
      have QR := Lib.hid hqr
      replace V0 := Lib.hid (V0.out.ext xx)
      replace VN0 := Lib.hid (VN0.out.ext xx)
      replace BW := Lib.hid (Ex.trans BW.out xx)
      have SZ := Lib.hid (Nat.lt_of_lt_of_le V0.out.lt (Nat.le_refl _))
      clear XI XR hqi hqr xx
      go_wp2_with (first | (with_reducible refine stop_load (t := 30) ?_) | (with_reducible refine stop_store (t := 30) ?_) | (with_reducible refine stop_load (t := 33) ?_) | (with_reducible refine stop_store (t := 33) ?_) | (with_reducible refine stop_load (t := 39) ?_) | (with_reducible refine stop_store (t := 39) ?_) | (with_reducible refine stop_load (t := 27) ?_) | (with_reducible refine stop_store (t := 27) ?_) | (with_reducible refine stop_load (t := 24) ?_) | (with_reducible refine stop_store (t := 24) ?_) | (with_reducible refine stop_build ?_) | (with_reducible refine stop_eql (t := 27) ?_) | (with_reducible refine stop_neq (t := 27) ?_) | (with_reducible refine stop_eql (t := 24) ?_) | (with_reducible refine stop_neq (t := 24) ?_) | (with_reducible refine stop_load (t := 36) ?_))
      (with_reducible refine ⟨?_⟩); (with_reducible refine at_any ?_ ?_); (focus go_simp); refine fun K0 hK => st_q _ _ w3.heap.size q rfl rfl rfl QI0.out.ok (Bk.new rfl _ _) (by rfl) (fun w4 hd ho => hK _ _ ?_)
      clear hK
      have xx : Ex w3 w4 := ho.below w3.heap.size (Nat.le_refl _) w3 (Ex.alloc w3 _)
      replace V0 := Lib.hid (V0.out.ext xx)
      replace VN0 := Lib.hid (VN0.out.ext xx)
      replace QI0 := Lib.hid (QI0.out.ext xx)
      replace BW := Lib.hid (Ex.trans BW.out xx)
      obtain ⟨g, hg⟩ : ∃ g, g = w3.heap.size := ⟨_, rfl⟩
      have X3 : Hid (Below g w3 w4) := Lib.hid (by rw [hg]; exact xx)
      rw [← hg] at hd SZ QS ⊢
      have Q1 := Lib.hid hd
      clear hg hd ho xx
      go_wp2_with (first | (with_reducible refine stop_load (t := 30) ?_) | (with_reducible refine stop_store (t := 30) ?_) | (with_reducible refine stop_load (t := 33) ?_) | (with_reducible refine stop_store (t := 33) ?_) | (with_reducible refine stop_load (t := 39) ?_) | (with_reducible refine stop_store (t := 39) ?_) | (with_reducible refine stop_load (t := 27) ?_) | (with_reducible refine stop_store (t := 27) ?_) | (with_reducible refine stop_load (t := 24) ?_) | (with_reducible refine stop_store (t := 24) ?_) | (with_reducible refine stop_build ?_) | (with_reducible refine stop_eql (t := 27) ?_) | (with_reducible refine stop_neq (t := 27) ?_) | (with_reducible refine stop_eql (t := 24) ?_) | (with_reducible refine stop_neq (t := 24) ?_) | (with_reducible refine stop_load (t := 36) ?_))
      (with_reducible refine ⟨?_⟩); (with_reducible refine at_any ?_ ?_); (focus go_simp); refine fun K0 hK => wp_build _ _ rfl _ (kbi 7) (hK _ _ ?_)
      clear hK
      go_wp2_with (first | (with_reducible refine stop_load (t := 30) ?_) | (with_reducible refine stop_store (t := 30) ?_) | (with_reducible refine stop_load (t := 33) ?_) | (with_reducible refine stop_store (t := 33) ?_) | (with_reducible refine stop_load (t := 39) ?_) | (with_reducible refine stop_store (t := 39) ?_) | (with_reducible refine stop_load (t := 27) ?_) | (with_reducible refine stop_store (t := 27) ?_) | (with_reducible refine stop_load (t := 24) ?_) | (with_reducible refine stop_store (t := 24) ?_) | (with_reducible refine stop_build ?_) | (with_reducible refine stop_eql (t := 27) ?_) | (with_reducible refine stop_neq (t := 27) ?_) | (with_reducible refine stop_eql (t := 24) ?_) | (with_reducible refine stop_neq (t := 24) ?_) | (with_reducible refine stop_load (t := 36) ?_))
      (with_reducible refine ⟨?_⟩); (with_reducible refine at_any ?_ ?_); (focus go_simp); refine fun K0 hK => st_qid _ _ g q id7 rfl rfl rfl rfl Q1.out (fun w5 hd ho => hK _ _ ?_)
      clear hK
      have sz := SZ.out
      replace V0 := Lib.hid (ho.vb V0.out (by omega))
      have PT := Q1.out.2
      replace VN0 := Lib.hid (show VN w5 (B + 1) v from ⟨VN0.out.1, VN0.out.2.onlyT ho PT (by decide)⟩)
      replace BW := Lib.hid (ho.below w.heap.size (by rw [← HB.out]; omega) w BW.out)
      replace QI0 : Hid (QI w5 { q with id := id7 }) := Lib.hid ⟨hd.1, (QS.out.keep (ho.below g (Nat.le_refl _) w3 X3.out)).more (by rw [ho.size]; exact Nat.le_of_lt Q1.out.lt)⟩
      obtain ⟨q7, hq7⟩ : ∃ y : Qt, y = { q with id := id7 } := ⟨_, rfl⟩
      rw [← hq7] at hd QI0
      have QID : Hid (q7.ct.id = id7) := Lib.hid (by rw [hq7]; rfl)
      replace QR : Hid (q7.ct.right = true) := Lib.hid (by rw [hq7]; exact QR.out)
      replace Q1 := Lib.hid hd
      clear hd ho PT hq7 sz X3 QS
      go_wp2_with (first | (with_reducible refine stop_load (t := 30) ?_) | (with_reducible refine stop_store (t := 30) ?_) | (with_reducible refine stop_load (t := 33) ?_) | (with_reducible refine stop_store (t := 33) ?_) | (with_reducible refine stop_load (t := 39) ?_) | (with_reducible refine stop_store (t := 39) ?_) | (with_reducible refine stop_load (t := 27) ?_) | (with_reducible refine stop_store (t := 27) ?_) | (with_reducible refine stop_load (t := 24) ?_) | (with_reducible refine stop_store (t := 24) ?_) | (with_reducible refine stop_build ?_) | (with_reducible refine stop_eql (t := 27) ?_) | (with_reducible refine stop_neq (t := 27) ?_) | (with_reducible refine stop_eql (t := 24) ?_) | (with_reducible refine stop_neq (t := 24) ?_) | (with_reducible refine stop_load (t := 36) ?_))
      (with_reducible refine ⟨?_⟩); (with_reducible refine at_any ?_ ?_); (focus go_simp); refine fun K0 hK => ld_v _ _ v rfl rfl V0.out (hK _ _ ?_)
      clear hK
      go_wp2_with (first | (with_reducible refine stop_load (t := 30) ?_) | (with_reducible refine stop_store (t := 30) ?_) | (with_reducible refine stop_load (t := 33) ?_) | (with_reducible refine stop_store (t := 33) ?_) | (with_reducible refine stop_load (t := 39) ?_) | (with_reducible refine stop_store (t := 39) ?_) | (with_reducible refine stop_load (t := 27) ?_) | (with_reducible refine stop_store (t := 27) ?_) | (with_reducible refine stop_load (t := 24) ?_) | (with_reducible refine stop_store (t := 24) ?_) | (with_reducible refine stop_build ?_) | (with_reducible refine stop_eql (t := 27) ?_) | (with_reducible refine stop_neq (t := 27) ?_) | (with_reducible refine stop_eql (t := 24) ?_) | (with_reducible refine stop_neq (t := 24) ?_) | (with_reducible refine stop_load (t := 36) ?_))
      (with_reducible refine ⟨?_⟩); (with_reducible refine at_any ?_ ?_); (focus go_simp); refine fun K0 hK => ld_q _ _ q7 rfl rfl Q1.out (hK _ _ ?_)
      clear hK
      go_wp2_with (first | (with_reducible refine stop_load (t := 30) ?_) | (with_reducible refine stop_store (t := 30) ?_) | (with_reducible refine stop_load (t := 33) ?_) | (with_reducible refine stop_store (t := 33) ?_) | (with_reducible refine stop_load (t := 39) ?_) | (with_reducible refine stop_store (t := 39) ?_) | (with_reducible refine stop_load (t := 27) ?_) | (with_reducible refine stop_store (t := 27) ?_) | (with_reducible refine stop_load (t := 24) ?_) | (with_reducible refine stop_store (t := 24) ?_) | (with_reducible refine stop_build ?_) | (with_reducible refine stop_eql (t := 27) ?_) | (with_reducible refine stop_neq (t := 27) ?_) | (with_reducible refine stop_eql (t := 24) ?_) | (with_reducible refine stop_neq (t := 24) ?_) | (with_reducible refine stop_load (t := 36) ?_))
      refine (do_any v q7 w5 VN0.out.vi QI0.out).mono ?_
      rintro e w6 ⟨v', r, b, rfl, hz, hv, hro, hrs, xx⟩
      have F := Lib.hid (do_facts QR.out (by rw [QID.out]; exact KP.out) hz)
      have VN1 := Lib.hid (hv.2.less (show B + 1 ≤ w5.heap.size from V0.out.lt))
      have VI1 := Lib.hid hv.vi
      have RO := Lib.hid hro
      have KP1 := Lib.hid (by have h := F.out.kept; rw [QID.out] at h; exact h : Kept id7 v'.ct)
      replace V0 := Lib.hid (V0.out.ext xx)
      replace Q1 := Lib.hid (Q1.out.ext xx)
      replace BW := Lib.hid (Ex.trans BW.out xx)
      have SB := Lib.hid V0.out.lt
      clear hz hv hro hrs xx VN0 QI0
      go_wp2_with (first | (with_reducible refine stop_load (t := 30) ?_) | (with_reducible refine stop_store (t := 30) ?_) | (with_reducible refine stop_load (t := 33) ?_) | (with_reducible refine stop_store (t := 33) ?_) | (with_reducible refine stop_load (t := 39) ?_) | (with_reducible refine stop_store (t := 39) ?_) | (with_reducible refine stop_load (t := 27) ?_) | (with_reducible refine stop_store (t := 27) ?_) | (with_reducible refine stop_load (t := 24) ?_) | (with_reducible refine stop_store (t := 24) ?_) | (with_reducible refine stop_build ?_) | (with_reducible refine stop_eql (t := 27) ?_) | (with_reducible refine stop_neq (t := 27) ?_) | (with_reducible refine stop_eql (t := 24) ?_) | (with_reducible refine stop_neq (t := 24) ?_) | (with_reducible refine stop_load (t := 36) ?_))
      (with_reducible refine ⟨?_⟩); (with_reducible refine at_any ?_ ?_); (focus go_simp); refine fun K0 hK => st_v _ _ w6.heap.size v' rfl rfl rfl VI1.out.ok ((Bk.new rfl _ _).more _) (by rfl) (fun w7 d1 o1 => hK _ _ ?_)
      clear hK
      have Y1 : Hid (Bk w7 (w6.heap.size + 1) 39 zeroRt.C.toArray) := Lib.hid (o1.bk (Bk.new (by simp) _ _) (by omega))
      have D1 := Lib.hid d1
      have O1 := Lib.hid o1
      clear d1 o1
      go_wp2_with (first | (with_reducible refine stop_load (t := 30) ?_) | (with_reducible refine stop_store (t := 30) ?_) | (with_reducible refine stop_load (t := 33) ?_) | (with_reducible refine stop_store (t := 33) ?_) | (with_reducible refine stop_load (t := 39) ?_) | (with_reducible refine stop_store (t := 39) ?_) | (with_reducible refine stop_load (t := 27) ?_) | (with_reducible refine stop_store (t := 27) ?_) | (with_reducible refine stop_load (t := 24) ?_) | (with_reducible refine stop_store (t := 24) ?_) | (with_reducible refine stop_build ?_) | (with_reducible refine stop_eql (t := 27) ?_) | (with_reducible refine stop_neq (t := 27) ?_) | (with_reducible refine stop_eql (t := 24) ?_) | (with_reducible refine stop_neq (t := 24) ?_) | (with_reducible refine stop_load (t := 36) ?_))
      (with_reducible refine ⟨?_⟩); (with_reducible refine at_any ?_ ?_); (focus go_simp); refine fun K0 hK => st_r _ _ (w6.heap.size + 1) r rfl rfl rfl RO.out Y1.out (by rfl) (fun w8 d2 o2 => hK _ _ ?_)
      clear hK
      obtain ⟨gv, gr, xx⟩ := pair_facts O1.out D1.out o2 d2
      clear D1 O1 Y1 o2 d2
      replace V0 := Lib.hid (V0.out.ext xx)
      replace Q1 := Lib.hid (Q1.out.ext xx)
      replace VN1 := Lib.hid (VN1.out.ext xx)
      replace VI1 := Lib.hid (VI1.out.ext xx)
      replace BW := Lib.hid (Ex.trans BW.out xx)
      obtain ⟨g6, hgn⟩ : ∃ g, g = w6.heap.size := ⟨_, rfl⟩
      rw [← hgn] at gv gr ⊢
      have g6S := Lib.hid hgn
      have g6V := Lib.hid gv
      have g6R := Lib.hid gr
      clear gv gr xx hgn
      replace SB := Lib.hid (show B < g6 by rw [g6S.out]; exact SB.out)
      clear g6S
      have OP := (Qc.right_op QR.out).1
      skip
      have gb : 0 ≤ v.gen ∧ v.gen ≤ 1099511627776 := by
        rcases KP.out with h | h
        · have e : v.gen = 0 := congrArg (·.gen) h
          omega
        · have h2 := right_gen h.1
          have h3 : 1 ≤ v.gen := h2.1
          have h4 : v.gen ≤ 1099511627776 := h2.2
          omega
      obtain ⟨gb0, gb1⟩ := gb
      have EQ : Hid ((r.id = q7.id ∧ r.num = q7.num ∧ r.client = q7.client ∧ r.gen = v'.gen)) := Lib.hid ⟨F.out.id, F.out.num, F.out.client, F.out.gen⟩
      obtain ⟨op, hop⟩ : ∃ op, op = q7.op := ⟨_, rfl⟩
      have OP : op = 1 ∨ op = 2 ∨ op = 3 ∨ op = 4 := by rw [hop]; exact OP
      have HOP := Lib.hid hop
      clear hop
      cases b
      case false =>
        have HGE : Hid (v'.gen = v.gen) := Lib.hid (F.out.no (fun h => by have := h.b; cases this))
        clear F
        obtain ⟨q0c, q21, q22, q55, q56⟩ := Q1.out.cells
        rw [← HOP.out] at q0c
        obtain ⟨r0, r5, r6, r7, r8, r9⟩ := g6R.out.cells
        obtain ⟨v4, v21, v22, v23, v40, v41⟩ := V0.out.cells
        obtain ⟨n4, n21, n22, n23, n40, n41⟩ := g6V.out.cells
        rw [EQ.out.2.1] at r9
        rw [EQ.out.2.2.1] at r8
        rw [EQ.out.2.2.2] at r5
        clear q21 q22 r6 r7 v21 v22 v23 v40 v41 n21 n22 n23 n40 n41
        have hge : v'.gen = v.gen := HGE.out
        rw [hge] at r5 n4
        clear hge
        go_wp2_with (first | (with_reducible refine stop_load (t := 30) ?_) | (with_reducible refine stop_store (t := 30) ?_) | (with_reducible refine stop_load (t := 33) ?_) | (with_reducible refine stop_store (t := 33) ?_) | (with_reducible refine stop_load (t := 39) ?_) | (with_reducible refine stop_store (t := 39) ?_) | (with_reducible refine stop_load (t := 27) ?_) | (with_reducible refine stop_store (t := 27) ?_) | (with_reducible refine stop_load (t := 24) ?_) | (with_reducible refine stop_store (t := 24) ?_) | (with_reducible refine stop_build ?_) | (with_reducible refine stop_eql (t := 27) ?_) | (with_reducible refine stop_neq (t := 27) ?_) | (with_reducible refine stop_eql (t := 24) ?_) | (with_reducible refine stop_neq (t := 24) ?_) | (with_reducible refine stop_load (t := 36) ?_))
        (with_reducible refine ⟨?_⟩); (with_reducible refine at_any ?_ ?_); (focus go_simp); refine fun K0 hK => ld_rid _ _ r rfl rfl g6R.out (hK _ _ ?_)
        clear hK
        go_wp2_with (first | (with_reducible refine stop_load (t := 30) ?_) | (with_reducible refine stop_store (t := 30) ?_) | (with_reducible refine stop_load (t := 33) ?_) | (with_reducible refine stop_store (t := 33) ?_) | (with_reducible refine stop_load (t := 39) ?_) | (with_reducible refine stop_store (t := 39) ?_) | (with_reducible refine stop_load (t := 27) ?_) | (with_reducible refine stop_store (t := 27) ?_) | (with_reducible refine stop_load (t := 24) ?_) | (with_reducible refine stop_store (t := 24) ?_) | (with_reducible refine stop_build ?_) | (with_reducible refine stop_eql (t := 27) ?_) | (with_reducible refine stop_neq (t := 27) ?_) | (with_reducible refine stop_eql (t := 24) ?_) | (with_reducible refine stop_neq (t := 24) ?_) | (with_reducible refine stop_load (t := 36) ?_))
        (with_reducible refine ⟨?_⟩); (with_reducible refine at_any ?_ ?_); (focus go_simp); refine fun K0 hK => ld_qid _ _ q7 rfl rfl Q1.out (hK _ _ ?_)
        clear hK
        go_wp2_with (first | (with_reducible refine stop_load (t := 30) ?_) | (with_reducible refine stop_store (t := 30) ?_) | (with_reducible refine stop_load (t := 33) ?_) | (with_reducible refine stop_store (t := 33) ?_) | (with_reducible refine stop_load (t := 39) ?_) | (with_reducible refine stop_store (t := 39) ?_) | (with_reducible refine stop_load (t := 27) ?_) | (with_reducible refine stop_store (t := 27) ?_) | (with_reducible refine stop_load (t := 24) ?_) | (with_reducible refine stop_store (t := 24) ?_) | (with_reducible refine stop_build ?_) | (with_reducible refine stop_eql (t := 27) ?_) | (with_reducible refine stop_neq (t := 27) ?_) | (with_reducible refine stop_eql (t := 24) ?_) | (with_reducible refine stop_neq (t := 24) ?_) | (with_reducible refine stop_load (t := 36) ?_))
        (with_reducible refine ⟨?_⟩); (with_reducible refine at_any ?_ ?_); (focus go_simp); refine fun K0 hK => wp_neq_id _ _ _ rfl r.id q7.id RO.out.idN Q1.out.1.idN rfl rfl (hK _ _ ?_)
        clear hK
        rw [decide_eq_true (show r.id = q7.id from EQ.out.1)]
        simp only [Bool.not_true]
        go_wp2_with (first | (with_reducible refine stop_load (t := 30) ?_) | (with_reducible refine stop_store (t := 30) ?_) | (with_reducible refine stop_load (t := 33) ?_) | (with_reducible refine stop_store (t := 33) ?_) | (with_reducible refine stop_load (t := 39) ?_) | (with_reducible refine stop_store (t := 39) ?_) | (with_reducible refine stop_load (t := 27) ?_) | (with_reducible refine stop_store (t := 27) ?_) | (with_reducible refine stop_load (t := 24) ?_) | (with_reducible refine stop_store (t := 24) ?_) | (with_reducible refine stop_build ?_) | (with_reducible refine stop_eql (t := 27) ?_) | (with_reducible refine stop_neq (t := 27) ?_) | (with_reducible refine stop_eql (t := 24) ?_) | (with_reducible refine stop_neq (t := 24) ?_) | (with_reducible refine stop_load (t := 36) ?_))
        (with_reducible refine ⟨?_⟩); (with_reducible refine at_any ?_ ?_); (focus go_simp); refine fun K0 hK => ld_v _ _ v' rfl rfl g6V.out (hK _ _ ?_)
        clear hK
        go_wp2_with (first | (with_reducible refine stop_load (t := 30) ?_) | (with_reducible refine stop_store (t := 30) ?_) | (with_reducible refine stop_load (t := 33) ?_) | (with_reducible refine stop_store (t := 33) ?_) | (with_reducible refine stop_load (t := 39) ?_) | (with_reducible refine stop_store (t := 39) ?_) | (with_reducible refine stop_load (t := 27) ?_) | (with_reducible refine stop_store (t := 27) ?_) | (with_reducible refine stop_load (t := 24) ?_) | (with_reducible refine stop_store (t := 24) ?_) | (with_reducible refine stop_build ?_) | (with_reducible refine stop_eql (t := 27) ?_) | (with_reducible refine stop_neq (t := 27) ?_) | (with_reducible refine stop_eql (t := 24) ?_) | (with_reducible refine stop_neq (t := 24) ?_) | (with_reducible refine stop_load (t := 36) ?_))
        refine (none_any v' w8 VI1.out).mono ?_
        rintro e w9 ⟨rfl, xx⟩
        replace V0 := Lib.hid (V0.out.ext xx)
        replace g6V := Lib.hid (g6V.out.ext xx)
        replace VN1 := Lib.hid (VN1.out.ext xx)
        replace VI1 := Lib.hid (VI1.out.ext xx)
        replace BW := Lib.hid (Ex.trans BW.out xx)
        clear xx q0c q55 q56 r0 r5 r8 r9 v4 n4 Q1 g6R EQ gb0 gb1
        by_cases hnz : v'.ct = zeroVc
        case pos =>
          rw [decide_eq_true hnz]
          clear hnz
          go_wp2_with (first | (with_reducible refine stop_load (t := 30) ?_) | (with_reducible refine stop_store (t := 30) ?_) | (with_reducible refine stop_load (t := 33) ?_) | (with_reducible refine stop_store (t := 33) ?_) | (with_reducible refine stop_load (t := 39) ?_) | (with_reducible refine stop_store (t := 39) ?_) | (with_reducible refine stop_load (t := 27) ?_) | (with_reducible refine stop_store (t := 27) ?_) | (with_reducible refine stop_load (t := 24) ?_) | (with_reducible refine stop_store (t := 24) ?_) | (with_reducible refine stop_build ?_) | (with_reducible refine stop_eql (t := 27) ?_) | (with_reducible refine stop_neq (t := 27) ?_) | (with_reducible refine stop_eql (t := 24) ?_) | (with_reducible refine stop_neq (t := 24) ?_) | (with_reducible refine stop_load (t := 36) ?_))
          (first | ((with_reducible refine ⟨?_⟩); (with_reducible refine at_not ?_ ?_); (focus (go_simp; done)); go_wp2_with (first | (with_reducible refine stop_load (t := 30) ?_) | (with_reducible refine stop_store (t := 30) ?_) | (with_reducible refine stop_load (t := 33) ?_) | (with_reducible refine stop_store (t := 33) ?_) | (with_reducible refine stop_load (t := 39) ?_) | (with_reducible refine stop_store (t := 39) ?_) | (with_reducible refine stop_load (t := 27) ?_) | (with_reducible refine stop_store (t := 27) ?_) | (with_reducible refine stop_load (t := 24) ?_) | (with_reducible refine stop_store (t := 24) ?_) | (with_reducible refine stop_build ?_) | (with_reducible refine stop_eql (t := 27) ?_) | (with_reducible refine stop_neq (t := 27) ?_) | (with_reducible refine stop_eql (t := 24) ?_) | (with_reducible refine stop_neq (t := 24) ?_) | (with_reducible refine stop_load (t := 36) ?_))) | skip)
          (first | ((with_reducible refine ⟨?_⟩); (with_reducible refine at_not ?_ ?_); (focus (go_simp; done)); go_wp2_with (first | (with_reducible refine stop_load (t := 30) ?_) | (with_reducible refine stop_store (t := 30) ?_) | (with_reducible refine stop_load (t := 33) ?_) | (with_reducible refine stop_store (t := 33) ?_) | (with_reducible refine stop_load (t := 39) ?_) | (with_reducible refine stop_store (t := 39) ?_) | (with_reducible refine stop_load (t := 27) ?_) | (with_reducible refine stop_store (t := 27) ?_) | (with_reducible refine stop_load (t := 24) ?_) | (with_reducible refine stop_store (t := 24) ?_) | (with_reducible refine stop_build ?_) | (with_reducible refine stop_eql (t := 27) ?_) | (with_reducible refine stop_neq (t := 27) ?_) | (with_reducible refine stop_eql (t := 24) ?_) | (with_reducible refine stop_neq (t := 24) ?_) | (with_reducible refine stop_load (t := 36) ?_))) | skip)
          (with_reducible refine ⟨?_⟩); (with_reducible refine at_any ?_ ?_); (focus go_simp); refine fun K0 hK => ld_v _ _ v' rfl rfl g6V.out (hK _ _ ?_)
          clear hK
          go_wp2_with (first | (with_reducible refine stop_load (t := 30) ?_) | (with_reducible refine stop_store (t := 30) ?_) | (with_reducible refine stop_load (t := 33) ?_) | (with_reducible refine stop_store (t := 33) ?_) | (with_reducible refine stop_load (t := 39) ?_) | (with_reducible refine stop_store (t := 39) ?_) | (with_reducible refine stop_load (t := 27) ?_) | (with_reducible refine stop_store (t := 27) ?_) | (with_reducible refine stop_load (t := 24) ?_) | (with_reducible refine stop_store (t := 24) ?_) | (with_reducible refine stop_build ?_) | (with_reducible refine stop_eql (t := 27) ?_) | (with_reducible refine stop_neq (t := 27) ?_) | (with_reducible refine stop_eql (t := 24) ?_) | (with_reducible refine stop_neq (t := 24) ?_) | (with_reducible refine stop_load (t := 36) ?_))
          (with_reducible refine ⟨?_⟩); (with_reducible refine at_any ?_ ?_); (focus go_simp); refine fun K0 hK => st_v _ _ B v' rfl rfl rfl VI1.out.ok V0.out.2 (by rw [List.size_toArray, Vt.len V0.out.1]) (fun w11 hd ho => hK _ _ ?_)
          clear hK
          replace V0 := Lib.hid hd
          have VN2 := Lib.hid (show VN w11 (B + 1) v' from ⟨VI1.out.ok, VN1.out.only ho (Nat.lt_succ_self B)⟩)
          replace BW := Lib.hid (ho.below w.heap.size (by rw [← HB.out]; exact Nat.le_refl _) w BW.out)
          clear hd ho
          go_wp2_with (first | (with_reducible refine stop_load (t := 30) ?_) | (with_reducible refine stop_store (t := 30) ?_) | (with_reducible refine stop_load (t := 33) ?_) | (with_reducible refine stop_store (t := 33) ?_) | (with_reducible refine stop_load (t := 39) ?_) | (with_reducible refine stop_store (t := 39) ?_) | (with_reducible refine stop_load (t := 27) ?_) | (with_reducible refine stop_store (t := 27) ?_) | (with_reducible refine stop_load (t := 24) ?_) | (with_reducible refine stop_store (t := 24) ?_) | (with_reducible refine stop_build ?_) | (with_reducible refine stop_eql (t := 27) ?_) | (with_reducible refine stop_neq (t := 27) ?_) | (with_reducible refine stop_eql (t := 24) ?_) | (with_reducible refine stop_neq (t := 24) ?_) | (with_reducible refine stop_load (t := 36) ?_))
          go_roundw
          case rel => exact ⟨k + 1, v', by omega, by go_num, V0, VN2, KP1, BW⟩
          case measure => simp [intOf]; omega
        case neg =>
          have HRI : Hid (v'.ct.right = true) := Lib.hid (KP1.out.elim (fun h => absurd h hnz) (fun h => h.1))
          rw [decide_eq_false hnz]
          clear hnz
          go_wp2_with (first | (with_reducible refine stop_load (t := 30) ?_) | (with_reducible refine stop_store (t := 30) ?_) | (with_reducible refine stop_load (t := 33) ?_) | (with_reducible refine stop_store (t := 33) ?_) | (with_reducible refine stop_load (t := 39) ?_) | (with_reducible refine stop_store (t := 39) ?_) | (with_reducible refine stop_load (t := 27) ?_) | (with_reducible refine stop_store (t := 27) ?_) | (with_reducible refine stop_load (t := 24) ?_) | (with_reducible refine stop_store (t := 24) ?_) | (with_reducible refine stop_build ?_) | (with_reducible refine stop_eql (t := 27) ?_) | (with_reducible refine stop_neq (t := 27) ?_) | (with_reducible refine stop_eql (t := 24) ?_) | (with_reducible refine stop_neq (t := 24) ?_) | (with_reducible refine stop_load (t := 36) ?_))
          (with_reducible refine ⟨?_⟩); (with_reducible refine at_any ?_ ?_); (focus go_simp); refine fun K0 hK => ld_v _ _ v' rfl rfl g6V.out (hK _ _ ?_)
          clear hK
          go_wp2_with (first | (with_reducible refine stop_load (t := 30) ?_) | (with_reducible refine stop_store (t := 30) ?_) | (with_reducible refine stop_load (t := 33) ?_) | (with_reducible refine stop_store (t := 33) ?_) | (with_reducible refine stop_load (t := 39) ?_) | (with_reducible refine stop_store (t := 39) ?_) | (with_reducible refine stop_load (t := 27) ?_) | (with_reducible refine stop_store (t := 27) ?_) | (with_reducible refine stop_load (t := 24) ?_) | (with_reducible refine stop_store (t := 24) ?_) | (with_reducible refine stop_build ?_) | (with_reducible refine stop_eql (t := 27) ?_) | (with_reducible refine stop_neq (t := 27) ?_) | (with_reducible refine stop_eql (t := 24) ?_) | (with_reducible refine stop_neq (t := 24) ?_) | (with_reducible refine stop_load (t := 36) ?_))
          refine (rright_any v' w9 VI1.out).mono ?_
          rintro e w10 ⟨rfl, xx⟩
          rw [HRI.out]
          replace V0 := Lib.hid (V0.out.ext xx)
          replace g6V := Lib.hid (g6V.out.ext xx)
          replace VN1 := Lib.hid (VN1.out.ext xx)
          replace VI1 := Lib.hid (VI1.out.ext xx)
          replace BW := Lib.hid (Ex.trans BW.out xx)
          clear xx HRI
          go_wp2_with (first | (with_reducible refine stop_load (t := 30) ?_) | (with_reducible refine stop_store (t := 30) ?_) | (with_reducible refine stop_load (t := 33) ?_) | (with_reducible refine stop_store (t := 33) ?_) | (with_reducible refine stop_load (t := 39) ?_) | (with_reducible refine stop_store (t := 39) ?_) | (with_reducible refine stop_load (t := 27) ?_) | (with_reducible refine stop_store (t := 27) ?_) | (with_reducible refine stop_load (t := 24) ?_) | (with_reducible refine stop_store (t := 24) ?_) | (with_reducible refine stop_build ?_) | (with_reducible refine stop_eql (t := 27) ?_) | (with_reducible refine stop_neq (t := 27) ?_) | (with_reducible refine stop_eql (t := 24) ?_) | (with_reducible refine stop_neq (t := 24) ?_) | (with_reducible refine stop_load (t := 36) ?_))
          (with_reducible refine ⟨?_⟩); (with_reducible refine at_any ?_ ?_); (focus go_simp); refine fun K0 hK => ld_v _ _ v' rfl rfl g6V.out (hK _ _ ?_)
          clear hK
          go_wp2_with (first | (with_reducible refine stop_load (t := 30) ?_) | (with_reducible refine stop_store (t := 30) ?_) | (with_reducible refine stop_load (t := 33) ?_) | (with_reducible refine stop_store (t := 33) ?_) | (with_reducible refine stop_load (t := 39) ?_) | (with_reducible refine stop_store (t := 39) ?_) | (with_reducible refine stop_load (t := 27) ?_) | (with_reducible refine stop_store (t := 27) ?_) | (with_reducible refine stop_load (t := 24) ?_) | (with_reducible refine stop_store (t := 24) ?_) | (with_reducible refine stop_build ?_) | (with_reducible refine stop_eql (t := 27) ?_) | (with_reducible refine stop_neq (t := 27) ?_) | (with_reducible refine stop_eql (t := 24) ?_) | (with_reducible refine stop_neq (t := 24) ?_) | (with_reducible refine stop_load (t := 36) ?_))
          (with_reducible refine ⟨?_⟩); (with_reducible refine at_any ?_ ?_); (focus go_simp); refine fun K0 hK => st_v _ _ B v' rfl rfl rfl VI1.out.ok V0.out.2 (by rw [List.size_toArray, Vt.len V0.out.1]) (fun w11 hd ho => hK _ _ ?_)
          clear hK
          replace V0 := Lib.hid hd
          have VN2 := Lib.hid (show VN w11 (B + 1) v' from ⟨VI1.out.ok, VN1.out.only ho (Nat.lt_succ_self B)⟩)
          replace BW := Lib.hid (ho.below w.heap.size (by rw [← HB.out]; exact Nat.le_refl _) w BW.out)
          clear hd ho
          go_wp2_with (first | (with_reducible refine stop_load (t := 30) ?_) | (with_reducible refine stop_store (t := 30) ?_) | (with_reducible refine stop_load (t := 33) ?_) | (with_reducible refine stop_store (t := 33) ?_) | (with_reducible refine stop_load (t := 39) ?_) | (with_reducible refine stop_store (t := 39) ?_) | (with_reducible refine stop_load (t := 27) ?_) | (with_reducible refine stop_store (t := 27) ?_) | (with_reducible refine stop_load (t := 24) ?_) | (with_reducible refine stop_store (t := 24) ?_) | (with_reducible refine stop_build ?_) | (with_reducible refine stop_eql (t := 27) ?_) | (with_reducible refine stop_neq (t := 27) ?_) | (with_reducible refine stop_eql (t := 24) ?_) | (with_reducible refine stop_neq (t := 24) ?_) | (with_reducible refine stop_load (t := 36) ?_))
          go_roundw
          case rel => exact ⟨k + 1, v', by omega, by go_num, V0, VN2, KP1, BW⟩
          case measure => simp [intOf]; omega
      by_cases hw : r.why = 0
      case neg =>
        have HGE : Hid (v'.gen = v.gen) := Lib.hid (F.out.no (fun h => hw h.w))
        have HW := Lib.hid hw
        clear F hw
        obtain ⟨q0c, q21, q22, q55, q56⟩ := Q1.out.cells
        rw [← HOP.out] at q0c
        obtain ⟨r0, r5, r6, r7, r8, r9⟩ := g6R.out.cells
        obtain ⟨v4, v21, v22, v23, v40, v41⟩ := V0.out.cells
        obtain ⟨n4, n21, n22, n23, n40, n41⟩ := g6V.out.cells
        rw [EQ.out.2.1] at r9
        rw [EQ.out.2.2.1] at r8
        rw [EQ.out.2.2.2] at r5
        clear q21 q22 r6 r7 v21 v22 v23 v40 v41 n21 n22 n23 n40 n41
        go_wp2_with (first | (with_reducible refine stop_load (t := 30) ?_) | (with_reducible refine stop_store (t := 30) ?_) | (with_reducible refine stop_load (t := 33) ?_) | (with_reducible refine stop_store (t := 33) ?_) | (with_reducible refine stop_load (t := 39) ?_) | (with_reducible refine stop_store (t := 39) ?_) | (with_reducible refine stop_load (t := 27) ?_) | (with_reducible refine stop_store (t := 27) ?_) | (with_reducible refine stop_load (t := 24) ?_) | (with_reducible refine stop_store (t := 24) ?_) | (with_reducible refine stop_build ?_) | (with_reducible refine stop_eql (t := 27) ?_) | (with_reducible refine stop_neq (t := 27) ?_) | (with_reducible refine stop_eql (t := 24) ?_) | (with_reducible refine stop_neq (t := 24) ?_) | (with_reducible refine stop_eql (t := 37) ?_))
        (with_reducible refine ⟨?_⟩); (with_reducible refine at_any ?_ ?_); (focus go_simp); refine fun K0 hK => wp_eql_err _ _ _ rfl r.why 0 rfl rfl (hK _ _ ?_)
        clear hK
        rw [decide_eq_false HW.out]
        have hge : v'.gen = v.gen := HGE.out
        rw [hge] at r5 n4
        clear hge
        go_wp2_with (first | (with_reducible refine stop_load (t := 30) ?_) | (with_reducible refine stop_store (t := 30) ?_) | (with_reducible refine stop_load (t := 33) ?_) | (with_reducible refine stop_store (t := 33) ?_) | (with_reducible refine stop_load (t := 39) ?_) | (with_reducible refine stop_store (t := 39) ?_) | (with_reducible refine stop_load (t := 27) ?_) | (with_reducible refine stop_store (t := 27) ?_) | (with_reducible refine stop_load (t := 24) ?_) | (with_reducible refine stop_store (t := 24) ?_) | (with_reducible refine stop_build ?_) | (with_reducible refine stop_eql (t := 27) ?_) | (with_reducible refine stop_neq (t := 27) ?_) | (with_reducible refine stop_eql (t := 24) ?_) | (with_reducible refine stop_neq (t := 24) ?_) | (with_reducible refine stop_load (t := 36) ?_))
        (with_reducible refine ⟨?_⟩); (with_reducible refine at_any ?_ ?_); (focus go_simp); refine fun K0 hK => ld_rid _ _ r rfl rfl g6R.out (hK _ _ ?_)
        clear hK
        go_wp2_with (first | (with_reducible refine stop_load (t := 30) ?_) | (with_reducible refine stop_store (t := 30) ?_) | (with_reducible refine stop_load (t := 33) ?_) | (with_reducible refine stop_store (t := 33) ?_) | (with_reducible refine stop_load (t := 39) ?_) | (with_reducible refine stop_store (t := 39) ?_) | (with_reducible refine stop_load (t := 27) ?_) | (with_reducible refine stop_store (t := 27) ?_) | (with_reducible refine stop_load (t := 24) ?_) | (with_reducible refine stop_store (t := 24) ?_) | (with_reducible refine stop_build ?_) | (with_reducible refine stop_eql (t := 27) ?_) | (with_reducible refine stop_neq (t := 27) ?_) | (with_reducible refine stop_eql (t := 24) ?_) | (with_reducible refine stop_neq (t := 24) ?_) | (with_reducible refine stop_load (t := 36) ?_))
        (with_reducible refine ⟨?_⟩); (with_reducible refine at_any ?_ ?_); (focus go_simp); refine fun K0 hK => ld_qid _ _ q7 rfl rfl Q1.out (hK _ _ ?_)
        clear hK
        go_wp2_with (first | (with_reducible refine stop_load (t := 30) ?_) | (with_reducible refine stop_store (t := 30) ?_) | (with_reducible refine stop_load (t := 33) ?_) | (with_reducible refine stop_store (t := 33) ?_) | (with_reducible refine stop_load (t := 39) ?_) | (with_reducible refine stop_store (t := 39) ?_) | (with_reducible refine stop_load (t := 27) ?_) | (with_reducible refine stop_store (t := 27) ?_) | (with_reducible refine stop_load (t := 24) ?_) | (with_reducible refine stop_store (t := 24) ?_) | (with_reducible refine stop_build ?_) | (with_reducible refine stop_eql (t := 27) ?_) | (with_reducible refine stop_neq (t := 27) ?_) | (with_reducible refine stop_eql (t := 24) ?_) | (with_reducible refine stop_neq (t := 24) ?_) | (with_reducible refine stop_load (t := 36) ?_))
        (with_reducible refine ⟨?_⟩); (with_reducible refine at_any ?_ ?_); (focus go_simp); refine fun K0 hK => wp_neq_id _ _ _ rfl r.id q7.id RO.out.idN Q1.out.1.idN rfl rfl (hK _ _ ?_)
        clear hK
        rw [decide_eq_true (show r.id = q7.id from EQ.out.1)]
        simp only [Bool.not_true]
        go_wp2_with (first | (with_reducible refine stop_load (t := 30) ?_) | (with_reducible refine stop_store (t := 30) ?_) | (with_reducible refine stop_load (t := 33) ?_) | (with_reducible refine stop_store (t := 33) ?_) | (with_reducible refine stop_load (t := 39) ?_) | (with_reducible refine stop_store (t := 39) ?_) | (with_reducible refine stop_load (t := 27) ?_) | (with_reducible refine stop_store (t := 27) ?_) | (with_reducible refine stop_load (t := 24) ?_) | (with_reducible refine stop_store (t := 24) ?_) | (with_reducible refine stop_build ?_) | (with_reducible refine stop_eql (t := 27) ?_) | (with_reducible refine stop_neq (t := 27) ?_) | (with_reducible refine stop_eql (t := 24) ?_) | (with_reducible refine stop_neq (t := 24) ?_) | (with_reducible refine stop_load (t := 36) ?_))
        (with_reducible refine ⟨?_⟩); (with_reducible refine at_any ?_ ?_); (focus go_simp); refine fun K0 hK => ld_v _ _ v' rfl rfl g6V.out (hK _ _ ?_)
        clear hK
        go_wp2_with (first | (with_reducible refine stop_load (t := 30) ?_) | (with_reducible refine stop_store (t := 30) ?_) | (with_reducible refine stop_load (t := 33) ?_) | (with_reducible refine stop_store (t := 33) ?_) | (with_reducible refine stop_load (t := 39) ?_) | (with_reducible refine stop_store (t := 39) ?_) | (with_reducible refine stop_load (t := 27) ?_) | (with_reducible refine stop_store (t := 27) ?_) | (with_reducible refine stop_load (t := 24) ?_) | (with_reducible refine stop_store (t := 24) ?_) | (with_reducible refine stop_build ?_) | (with_reducible refine stop_eql (t := 27) ?_) | (with_reducible refine stop_neq (t := 27) ?_) | (with_reducible refine stop_eql (t := 24) ?_) | (with_reducible refine stop_neq (t := 24) ?_) | (with_reducible refine stop_load (t := 36) ?_))
        refine (none_any v' w8 VI1.out).mono ?_
        rintro e w9 ⟨rfl, xx⟩
        replace V0 := Lib.hid (V0.out.ext xx)
        replace g6V := Lib.hid (g6V.out.ext xx)
        replace VN1 := Lib.hid (VN1.out.ext xx)
        replace VI1 := Lib.hid (VI1.out.ext xx)
        replace BW := Lib.hid (Ex.trans BW.out xx)
        clear xx q0c q55 q56 r0 r5 r8 r9 v4 n4 Q1 g6R EQ gb0 gb1
        by_cases hnz : v'.ct = zeroVc
        case pos =>
          rw [decide_eq_true hnz]
          clear hnz
          go_wp2_with (first | (with_reducible refine stop_load (t := 30) ?_) | (with_reducible refine stop_store (t := 30) ?_) | (with_reducible refine stop_load (t := 33) ?_) | (with_reducible refine stop_store (t := 33) ?_) | (with_reducible refine stop_load (t := 39) ?_) | (with_reducible refine stop_store (t := 39) ?_) | (with_reducible refine stop_load (t := 27) ?_) | (with_reducible refine stop_store (t := 27) ?_) | (with_reducible refine stop_load (t := 24) ?_) | (with_reducible refine stop_store (t := 24) ?_) | (with_reducible refine stop_build ?_) | (with_reducible refine stop_eql (t := 27) ?_) | (with_reducible refine stop_neq (t := 27) ?_) | (with_reducible refine stop_eql (t := 24) ?_) | (with_reducible refine stop_neq (t := 24) ?_) | (with_reducible refine stop_load (t := 36) ?_))
          (first | ((with_reducible refine ⟨?_⟩); (with_reducible refine at_not ?_ ?_); (focus (go_simp; done)); go_wp2_with (first | (with_reducible refine stop_load (t := 30) ?_) | (with_reducible refine stop_store (t := 30) ?_) | (with_reducible refine stop_load (t := 33) ?_) | (with_reducible refine stop_store (t := 33) ?_) | (with_reducible refine stop_load (t := 39) ?_) | (with_reducible refine stop_store (t := 39) ?_) | (with_reducible refine stop_load (t := 27) ?_) | (with_reducible refine stop_store (t := 27) ?_) | (with_reducible refine stop_load (t := 24) ?_) | (with_reducible refine stop_store (t := 24) ?_) | (with_reducible refine stop_build ?_) | (with_reducible refine stop_eql (t := 27) ?_) | (with_reducible refine stop_neq (t := 27) ?_) | (with_reducible refine stop_eql (t := 24) ?_) | (with_reducible refine stop_neq (t := 24) ?_) | (with_reducible refine stop_load (t := 36) ?_))) | skip)
          (first | ((with_reducible refine ⟨?_⟩); (with_reducible refine at_not ?_ ?_); (focus (go_simp; done)); go_wp2_with (first | (with_reducible refine stop_load (t := 30) ?_) | (with_reducible refine stop_store (t := 30) ?_) | (with_reducible refine stop_load (t := 33) ?_) | (with_reducible refine stop_store (t := 33) ?_) | (with_reducible refine stop_load (t := 39) ?_) | (with_reducible refine stop_store (t := 39) ?_) | (with_reducible refine stop_load (t := 27) ?_) | (with_reducible refine stop_store (t := 27) ?_) | (with_reducible refine stop_load (t := 24) ?_) | (with_reducible refine stop_store (t := 24) ?_) | (with_reducible refine stop_build ?_) | (with_reducible refine stop_eql (t := 27) ?_) | (with_reducible refine stop_neq (t := 27) ?_) | (with_reducible refine stop_eql (t := 24) ?_) | (with_reducible refine stop_neq (t := 24) ?_) | (with_reducible refine stop_load (t := 36) ?_))) | skip)
          (with_reducible refine ⟨?_⟩); (with_reducible refine at_any ?_ ?_); (focus go_simp); refine fun K0 hK => ld_v _ _ v' rfl rfl g6V.out (hK _ _ ?_)
          clear hK
          go_wp2_with (first | (with_reducible refine stop_load (t := 30) ?_) | (with_reducible refine stop_store (t := 30) ?_) | (with_reducible refine stop_load (t := 33) ?_) | (with_reducible refine stop_store (t := 33) ?_) | (with_reducible refine stop_load (t := 39) ?_) | (with_reducible refine stop_store (t := 39) ?_) | (with_reducible refine stop_load (t := 27) ?_) | (with_reducible refine stop_store (t := 27) ?_) | (with_reducible refine stop_load (t := 24) ?_) | (with_reducible refine stop_store (t := 24) ?_) | (with_reducible refine stop_build ?_) | (with_reducible refine stop_eql (t := 27) ?_) | (with_reducible refine stop_neq (t := 27) ?_) | (with_reducible refine stop_eql (t := 24) ?_) | (with_reducible refine stop_neq (t := 24) ?_) | (with_reducible refine stop_load (t := 36) ?_))
          (with_reducible refine ⟨?_⟩); (with_reducible refine at_any ?_ ?_); (focus go_simp); refine fun K0 hK => st_v _ _ B v' rfl rfl rfl VI1.out.ok V0.out.2 (by rw [List.size_toArray, Vt.len V0.out.1]) (fun w11 hd ho => hK _ _ ?_)
          clear hK
          replace V0 := Lib.hid hd
          have VN2 := Lib.hid (show VN w11 (B + 1) v' from ⟨VI1.out.ok, VN1.out.only ho (Nat.lt_succ_self B)⟩)
          replace BW := Lib.hid (ho.below w.heap.size (by rw [← HB.out]; exact Nat.le_refl _) w BW.out)
          clear hd ho
          go_wp2_with (first | (with_reducible refine stop_load (t := 30) ?_) | (with_reducible refine stop_store (t := 30) ?_) | (with_reducible refine stop_load (t := 33) ?_) | (with_reducible refine stop_store (t := 33) ?_) | (with_reducible refine stop_load (t := 39) ?_) | (with_reducible refine stop_store (t := 39) ?_) | (with_reducible refine stop_load (t := 27) ?_) | (with_reducible refine stop_store (t := 27) ?_) | (with_reducible refine stop_load (t := 24) ?_) | (with_reducible refine stop_store (t := 24) ?_) | (with_reducible refine stop_build ?_) | (with_reducible refine stop_eql (t := 27) ?_) | (with_reducible refine stop_neq (t := 27) ?_) | (with_reducible refine stop_eql (t := 24) ?_) | (with_reducible refine stop_neq (t := 24) ?_) | (with_reducible refine stop_load (t := 36) ?_))
          go_roundw
          case rel => exact ⟨k + 1, v', by omega, by go_num, V0, VN2, KP1, BW⟩
          case measure => simp [intOf]; omega
        case neg =>
          have HRI : Hid (v'.ct.right = true) := Lib.hid (KP1.out.elim (fun h => absurd h hnz) (fun h => h.1))
          rw [decide_eq_false hnz]
          clear hnz
          go_wp2_with (first | (with_reducible refine stop_load (t := 30) ?_) | (with_reducible refine stop_store (t := 30) ?_) | (with_reducible refine stop_load (t := 33) ?_) | (with_reducible refine stop_store (t := 33) ?_) | (with_reducible refine stop_load (t := 39) ?_) | (with_reducible refine stop_store (t := 39) ?_) | (with_reducible refine stop_load (t := 27) ?_) | (with_reducible refine stop_store (t := 27) ?_) | (with_reducible refine stop_load (t := 24) ?_) | (with_reducible refine stop_store (t := 24) ?_) | (with_reducible refine stop_build ?_) | (with_reducible refine stop_eql (t := 27) ?_) | (with_reducible refine stop_neq (t := 27) ?_) | (with_reducible refine stop_eql (t := 24) ?_) | (with_reducible refine stop_neq (t := 24) ?_) | (with_reducible refine stop_load (t := 36) ?_))
          (with_reducible refine ⟨?_⟩); (with_reducible refine at_any ?_ ?_); (focus go_simp); refine fun K0 hK => ld_v _ _ v' rfl rfl g6V.out (hK _ _ ?_)
          clear hK
          go_wp2_with (first | (with_reducible refine stop_load (t := 30) ?_) | (with_reducible refine stop_store (t := 30) ?_) | (with_reducible refine stop_load (t := 33) ?_) | (with_reducible refine stop_store (t := 33) ?_) | (with_reducible refine stop_load (t := 39) ?_) | (with_reducible refine stop_store (t := 39) ?_) | (with_reducible refine stop_load (t := 27) ?_) | (with_reducible refine stop_store (t := 27) ?_) | (with_reducible refine stop_load (t := 24) ?_) | (with_reducible refine stop_store (t := 24) ?_) | (with_reducible refine stop_build ?_) | (with_reducible refine stop_eql (t := 27) ?_) | (with_reducible refine stop_neq (t := 27) ?_) | (with_reducible refine stop_eql (t := 24) ?_) | (with_reducible refine stop_neq (t := 24) ?_) | (with_reducible refine stop_load (t := 36) ?_))
          refine (rright_any v' w9 VI1.out).mono ?_
          rintro e w10 ⟨rfl, xx⟩
          rw [HRI.out]
          replace V0 := Lib.hid (V0.out.ext xx)
          replace g6V := Lib.hid (g6V.out.ext xx)
          replace VN1 := Lib.hid (VN1.out.ext xx)
          replace VI1 := Lib.hid (VI1.out.ext xx)
          replace BW := Lib.hid (Ex.trans BW.out xx)
          clear xx HRI
          go_wp2_with (first | (with_reducible refine stop_load (t := 30) ?_) | (with_reducible refine stop_store (t := 30) ?_) | (with_reducible refine stop_load (t := 33) ?_) | (with_reducible refine stop_store (t := 33) ?_) | (with_reducible refine stop_load (t := 39) ?_) | (with_reducible refine stop_store (t := 39) ?_) | (with_reducible refine stop_load (t := 27) ?_) | (with_reducible refine stop_store (t := 27) ?_) | (with_reducible refine stop_load (t := 24) ?_) | (with_reducible refine stop_store (t := 24) ?_) | (with_reducible refine stop_build ?_) | (with_reducible refine stop_eql (t := 27) ?_) | (with_reducible refine stop_neq (t := 27) ?_) | (with_reducible refine stop_eql (t := 24) ?_) | (with_reducible refine stop_neq (t := 24) ?_) | (with_reducible refine stop_load (t := 36) ?_))
          (with_reducible refine ⟨?_⟩); (with_reducible refine at_any ?_ ?_); (focus go_simp); refine fun K0 hK => ld_v _ _ v' rfl rfl g6V.out (hK _ _ ?_)
          clear hK
          go_wp2_with (first | (with_reducible refine stop_load (t := 30) ?_) | (with_reducible refine stop_store (t := 30) ?_) | (with_reducible refine stop_load (t := 33) ?_) | (with_reducible refine stop_store (t := 33) ?_) | (with_reducible refine stop_load (t := 39) ?_) | (with_reducible refine stop_store (t := 39) ?_) | (with_reducible refine stop_load (t := 27) ?_) | (with_reducible refine stop_store (t := 27) ?_) | (with_reducible refine stop_load (t := 24) ?_) | (with_reducible refine stop_store (t := 24) ?_) | (with_reducible refine stop_build ?_) | (with_reducible refine stop_eql (t := 27) ?_) | (with_reducible refine stop_neq (t := 27) ?_) | (with_reducible refine stop_eql (t := 24) ?_) | (with_reducible refine stop_neq (t := 24) ?_) | (with_reducible refine stop_load (t := 36) ?_))
          (with_reducible refine ⟨?_⟩); (with_reducible refine at_any ?_ ?_); (focus go_simp); refine fun K0 hK => st_v _ _ B v' rfl rfl rfl VI1.out.ok V0.out.2 (by rw [List.size_toArray, Vt.len V0.out.1]) (fun w11 hd ho => hK _ _ ?_)
          clear hK
          replace V0 := Lib.hid hd
          have VN2 := Lib.hid (show VN w11 (B + 1) v' from ⟨VI1.out.ok, VN1.out.only ho (Nat.lt_succ_self B)⟩)
          replace BW := Lib.hid (ho.below w.heap.size (by rw [← HB.out]; exact Nat.le_refl _) w BW.out)
          clear hd ho
          go_wp2_with (first | (with_reducible refine stop_load (t := 30) ?_) | (with_reducible refine stop_store (t := 30) ?_) | (with_reducible refine stop_load (t := 33) ?_) | (with_reducible refine stop_store (t := 33) ?_) | (with_reducible refine stop_load (t := 39) ?_) | (with_reducible refine stop_store (t := 39) ?_) | (with_reducible refine stop_load (t := 27) ?_) | (with_reducible refine stop_store (t := 27) ?_) | (with_reducible refine stop_load (t := 24) ?_) | (with_reducible refine stop_store (t := 24) ?_) | (with_reducible refine stop_build ?_) | (with_reducible refine stop_eql (t := 27) ?_) | (with_reducible refine stop_neq (t := 27) ?_) | (with_reducible refine stop_eql (t := 24) ?_) | (with_reducible refine stop_neq (t := 24) ?_) | (with_reducible refine stop_load (t := 36) ?_))
          go_roundw
          case rel => exact ⟨k + 1, v', by omega, by go_num, V0, VN2, KP1, BW⟩
          case measure => simp [intOf]; omega
      have HW := Lib.hid hw
      clear hw
      rcases OP with rfl | rfl | rfl | rfl
      · have HGE : Hid (v'.gen = v.gen + 1) := Lib.hid (F.out.yes ⟨rfl, HW.out, by rw [show q7.ct.op = _ from HOP.out.symm]; decide⟩)
        clear F
        obtain ⟨q0c, q21, q22, q55, q56⟩ := Q1.out.cells
        rw [← HOP.out] at q0c
        obtain ⟨r0, r5, r6, r7, r8, r9⟩ := g6R.out.cells
        obtain ⟨v4, v21, v22, v23, v40, v41⟩ := V0.out.cells
        obtain ⟨n4, n21, n22, n23, n40, n41⟩ := g6V.out.cells
        rw [EQ.out.2.1] at r9
        rw [EQ.out.2.2.1] at r8
        rw [EQ.out.2.2.2] at r5
        clear q21 q22 r6 r7 v21 v22 v23 v40 v41 n21 n22 n23 n40 n41
        go_wp2_with (first | (with_reducible refine stop_load (t := 30) ?_) | (with_reducible refine stop_store (t := 30) ?_) | (with_reducible refine stop_load (t := 33) ?_) | (with_reducible refine stop_store (t := 33) ?_) | (with_reducible refine stop_load (t := 39) ?_) | (with_reducible refine stop_store (t := 39) ?_) | (with_reducible refine stop_load (t := 27) ?_) | (with_reducible refine stop_store (t := 27) ?_) | (with_reducible refine stop_load (t := 24) ?_) | (with_reducible refine stop_store (t := 24) ?_) | (with_reducible refine stop_build ?_) | (with_reducible refine stop_eql (t := 27) ?_) | (with_reducible refine stop_neq (t := 27) ?_) | (with_reducible refine stop_eql (t := 24) ?_) | (with_reducible refine stop_neq (t := 24) ?_) | (with_reducible refine stop_eql (t := 37) ?_))
        (with_reducible refine ⟨?_⟩); (with_reducible refine at_any ?_ ?_); (focus go_simp); refine fun K0 hK => wp_eql_err _ _ _ rfl r.why 0 rfl rfl (hK _ _ ?_)
        clear hK
        rw [decide_eq_true HW.out]
        have hge : v'.gen = v.gen + 1 := HGE.out
        rw [hge] at r5 n4
        clear hge
        go_wp2_with (first | (with_reducible refine stop_load (t := 30) ?_) | (with_reducible refine stop_store (t := 30) ?_) | (with_reducible refine stop_load (t := 33) ?_) | (with_reducible refine stop_store (t := 33) ?_) | (with_reducible refine stop_load (t := 39) ?_) | (with_reducible refine stop_store (t := 39) ?_) | (with_reducible refine stop_load (t := 27) ?_) | (with_reducible refine stop_store (t := 27) ?_) | (with_reducible refine stop_load (t := 24) ?_) | (with_reducible refine stop_store (t := 24) ?_) | (with_reducible refine stop_build ?_) | (with_reducible refine stop_eql (t := 27) ?_) | (with_reducible refine stop_neq (t := 27) ?_) | (with_reducible refine stop_eql (t := 24) ?_) | (with_reducible refine stop_neq (t := 24) ?_) | (with_reducible refine stop_load (t := 36) ?_))
        (with_reducible refine ⟨?_⟩); (with_reducible refine at_any ?_ ?_); (focus go_simp); refine fun K0 hK => ld_rid _ _ r rfl rfl g6R.out (hK _ _ ?_)
        clear hK
        go_wp2_with (first | (with_reducible refine stop_load (t := 30) ?_) | (with_reducible refine stop_store (t := 30) ?_) | (with_reducible refine stop_load (t := 33) ?_) | (with_reducible refine stop_store (t := 33) ?_) | (with_reducible refine stop_load (t := 39) ?_) | (with_reducible refine stop_store (t := 39) ?_) | (with_reducible refine stop_load (t := 27) ?_) | (with_reducible refine stop_store (t := 27) ?_) | (with_reducible refine stop_load (t := 24) ?_) | (with_reducible refine stop_store (t := 24) ?_) | (with_reducible refine stop_build ?_) | (with_reducible refine stop_eql (t := 27) ?_) | (with_reducible refine stop_neq (t := 27) ?_) | (with_reducible refine stop_eql (t := 24) ?_) | (with_reducible refine stop_neq (t := 24) ?_) | (with_reducible refine stop_load (t := 36) ?_))
        (with_reducible refine ⟨?_⟩); (with_reducible refine at_any ?_ ?_); (focus go_simp); refine fun K0 hK => ld_qid _ _ q7 rfl rfl Q1.out (hK _ _ ?_)
        clear hK
        go_wp2_with (first | (with_reducible refine stop_load (t := 30) ?_) | (with_reducible refine stop_store (t := 30) ?_) | (with_reducible refine stop_load (t := 33) ?_) | (with_reducible refine stop_store (t := 33) ?_) | (with_reducible refine stop_load (t := 39) ?_) | (with_reducible refine stop_store (t := 39) ?_) | (with_reducible refine stop_load (t := 27) ?_) | (with_reducible refine stop_store (t := 27) ?_) | (with_reducible refine stop_load (t := 24) ?_) | (with_reducible refine stop_store (t := 24) ?_) | (with_reducible refine stop_build ?_) | (with_reducible refine stop_eql (t := 27) ?_) | (with_reducible refine stop_neq (t := 27) ?_) | (with_reducible refine stop_eql (t := 24) ?_) | (with_reducible refine stop_neq (t := 24) ?_) | (with_reducible refine stop_load (t := 36) ?_))
        (with_reducible refine ⟨?_⟩); (with_reducible refine at_any ?_ ?_); (focus go_simp); refine fun K0 hK => wp_neq_id _ _ _ rfl r.id q7.id RO.out.idN Q1.out.1.idN rfl rfl (hK _ _ ?_)
        clear hK
        rw [decide_eq_true (show r.id = q7.id from EQ.out.1)]
        simp only [Bool.not_true]
        go_wp2_with (first | (with_reducible refine stop_load (t := 30) ?_) | (with_reducible refine stop_store (t := 30) ?_) | (with_reducible refine stop_load (t := 33) ?_) | (with_reducible refine stop_store (t := 33) ?_) | (with_reducible refine stop_load (t := 39) ?_) | (with_reducible refine stop_store (t := 39) ?_) | (with_reducible refine stop_load (t := 27) ?_) | (with_reducible refine stop_store (t := 27) ?_) | (with_reducible refine stop_load (t := 24) ?_) | (with_reducible refine stop_store (t := 24) ?_) | (with_reducible refine stop_build ?_) | (with_reducible refine stop_eql (t := 27) ?_) | (with_reducible refine stop_neq (t := 27) ?_) | (with_reducible refine stop_eql (t := 24) ?_) | (with_reducible refine stop_neq (t := 24) ?_) | (with_reducible refine stop_load (t := 36) ?_))
        (with_reducible refine ⟨?_⟩); (with_reducible refine at_any ?_ ?_); (focus go_simp); refine fun K0 hK => ld_v _ _ v' rfl rfl g6V.out (hK _ _ ?_)
        clear hK
        go_wp2_with (first | (with_reducible refine stop_load (t := 30) ?_) | (with_reducible refine stop_store (t := 30) ?_) | (with_reducible refine stop_load (t := 33) ?_) | (with_reducible refine stop_store (t := 33) ?_) | (with_reducible refine stop_load (t := 39) ?_) | (with_reducible refine stop_store (t := 39) ?_) | (with_reducible refine stop_load (t := 27) ?_) | (with_reducible refine stop_store (t := 27) ?_) | (with_reducible refine stop_load (t := 24) ?_) | (with_reducible refine stop_store (t := 24) ?_) | (with_reducible refine stop_build ?_) | (with_reducible refine stop_eql (t := 27) ?_) | (with_reducible refine stop_neq (t := 27) ?_) | (with_reducible refine stop_eql (t := 24) ?_) | (with_reducible refine stop_neq (t := 24) ?_) | (with_reducible refine stop_load (t := 36) ?_))
        refine (none_any v' w8 VI1.out).mono ?_
        rintro e w9 ⟨rfl, xx⟩
        replace V0 := Lib.hid (V0.out.ext xx)
        replace g6V := Lib.hid (g6V.out.ext xx)
        replace VN1 := Lib.hid (VN1.out.ext xx)
        replace VI1 := Lib.hid (VI1.out.ext xx)
        replace BW := Lib.hid (Ex.trans BW.out xx)
        clear xx q0c q55 q56 r0 r5 r8 r9 v4 n4 Q1 g6R EQ gb0 gb1
        by_cases hnz : v'.ct = zeroVc
        case pos =>
          rw [decide_eq_true hnz]
          clear hnz
          go_wp2_with (first | (with_reducible refine stop_load (t := 30) ?_) | (with_reducible refine stop_store (t := 30) ?_) | (with_reducible refine stop_load (t := 33) ?_) | (with_reducible refine stop_store (t := 33) ?_) | (with_reducible refine stop_load (t := 39) ?_) | (with_reducible refine stop_store (t := 39) ?_) | (with_reducible refine stop_load (t := 27) ?_) | (with_reducible refine stop_store (t := 27) ?_) | (with_reducible refine stop_load (t := 24) ?_) | (with_reducible refine stop_store (t := 24) ?_) | (with_reducible refine stop_build ?_) | (with_reducible refine stop_eql (t := 27) ?_) | (with_reducible refine stop_neq (t := 27) ?_) | (with_reducible refine stop_eql (t := 24) ?_) | (with_reducible refine stop_neq (t := 24) ?_) | (with_reducible refine stop_load (t := 36) ?_))
          (first | ((with_reducible refine ⟨?_⟩); (with_reducible refine at_not ?_ ?_); (focus (go_simp; done)); go_wp2_with (first | (with_reducible refine stop_load (t := 30) ?_) | (with_reducible refine stop_store (t := 30) ?_) | (with_reducible refine stop_load (t := 33) ?_) | (with_reducible refine stop_store (t := 33) ?_) | (with_reducible refine stop_load (t := 39) ?_) | (with_reducible refine stop_store (t := 39) ?_) | (with_reducible refine stop_load (t := 27) ?_) | (with_reducible refine stop_store (t := 27) ?_) | (with_reducible refine stop_load (t := 24) ?_) | (with_reducible refine stop_store (t := 24) ?_) | (with_reducible refine stop_build ?_) | (with_reducible refine stop_eql (t := 27) ?_) | (with_reducible refine stop_neq (t := 27) ?_) | (with_reducible refine stop_eql (t := 24) ?_) | (with_reducible refine stop_neq (t := 24) ?_) | (with_reducible refine stop_load (t := 36) ?_))) | skip)
          (first | ((with_reducible refine ⟨?_⟩); (with_reducible refine at_not ?_ ?_); (focus (go_simp; done)); go_wp2_with (first | (with_reducible refine stop_load (t := 30) ?_) | (with_reducible refine stop_store (t := 30) ?_) | (with_reducible refine stop_load (t := 33) ?_) | (with_reducible refine stop_store (t := 33) ?_) | (with_reducible refine stop_load (t := 39) ?_) | (with_reducible refine stop_store (t := 39) ?_) | (with_reducible refine stop_load (t := 27) ?_) | (with_reducible refine stop_store (t := 27) ?_) | (with_reducible refine stop_load (t := 24) ?_) | (with_reducible refine stop_store (t := 24) ?_) | (with_reducible refine stop_build ?_) | (with_reducible refine stop_eql (t := 27) ?_) | (with_reducible refine stop_neq (t := 27) ?_) | (with_reducible refine stop_eql (t := 24) ?_) | (with_reducible refine stop_neq (t := 24) ?_) | (with_reducible refine stop_load (t := 36) ?_))) | skip)
          (with_reducible refine ⟨?_⟩); (with_reducible refine at_any ?_ ?_); (focus go_simp); refine fun K0 hK => ld_v _ _ v' rfl rfl g6V.out (hK _ _ ?_)
          clear hK
          go_wp2_with (first | (with_reducible refine stop_load (t := 30) ?_) | (with_reducible refine stop_store (t := 30) ?_) | (with_reducible refine stop_load (t := 33) ?_) | (with_reducible refine stop_store (t := 33) ?_) | (with_reducible refine stop_load (t := 39) ?_) | (with_reducible refine stop_store (t := 39) ?_) | (with_reducible refine stop_load (t := 27) ?_) | (with_reducible refine stop_store (t := 27) ?_) | (with_reducible refine stop_load (t := 24) ?_) | (with_reducible refine stop_store (t := 24) ?_) | (with_reducible refine stop_build ?_) | (with_reducible refine stop_eql (t := 27) ?_) | (with_reducible refine stop_neq (t := 27) ?_) | (with_reducible refine stop_eql (t := 24) ?_) | (with_reducible refine stop_neq (t := 24) ?_) | (with_reducible refine stop_load (t := 36) ?_))
          (with_reducible refine ⟨?_⟩); (with_reducible refine at_any ?_ ?_); (focus go_simp); refine fun K0 hK => st_v _ _ B v' rfl rfl rfl VI1.out.ok V0.out.2 (by rw [List.size_toArray, Vt.len V0.out.1]) (fun w11 hd ho => hK _ _ ?_)
          clear hK
          replace V0 := Lib.hid hd
          have VN2 := Lib.hid (show VN w11 (B + 1) v' from ⟨VI1.out.ok, VN1.out.only ho (Nat.lt_succ_self B)⟩)
          replace BW := Lib.hid (ho.below w.heap.size (by rw [← HB.out]; exact Nat.le_refl _) w BW.out)
          clear hd ho
          go_wp2_with (first | (with_reducible refine stop_load (t := 30) ?_) | (with_reducible refine stop_store (t := 30) ?_) | (with_reducible refine stop_load (t := 33) ?_) | (with_reducible refine stop_store (t := 33) ?_) | (with_reducible refine stop_load (t := 39) ?_) | (with_reducible refine stop_store (t := 39) ?_) | (with_reducible refine stop_load (t := 27) ?_) | (with_reducible refine stop_store (t := 27) ?_) | (with_reducible refine stop_load (t := 24) ?_) | (with_reducible refine stop_store (t := 24) ?_) | (with_reducible refine stop_build ?_) | (with_reducible refine stop_eql (t := 27) ?_) | (with_reducible refine stop_neq (t := 27) ?_) | (with_reducible refine stop_eql (t := 24) ?_) | (with_reducible refine stop_neq (t := 24) ?_) | (with_reducible refine stop_load (t := 36) ?_))
          go_roundw
          case rel => exact ⟨k + 1, v', by omega, by go_num, V0, VN2, KP1, BW⟩
          case measure => simp [intOf]; omega
        case neg =>
          have HRI : Hid (v'.ct.right = true) := Lib.hid (KP1.out.elim (fun h => absurd h hnz) (fun h => h.1))
          rw [decide_eq_false hnz]
          clear hnz
          go_wp2_with (first | (with_reducible refine stop_load (t := 30) ?_) | (with_reducible refine stop_store (t := 30) ?_) | (with_reducible refine stop_load (t := 33) ?_) | (with_reducible refine stop_store (t := 33) ?_) | (with_reducible refine stop_load (t := 39) ?_) | (with_reducible refine stop_store (t := 39) ?_) | (with_reducible refine stop_load (t := 27) ?_) | (with_reducible refine stop_store (t := 27) ?_) | (with_reducible refine stop_load (t := 24) ?_) | (with_reducible refine stop_store (t := 24) ?_) | (with_reducible refine stop_build ?_) | (with_reducible refine stop_eql (t := 27) ?_) | (with_reducible refine stop_neq (t := 27) ?_) | (with_reducible refine stop_eql (t := 24) ?_) | (with_reducible refine stop_neq (t := 24) ?_) | (with_reducible refine stop_load (t := 36) ?_))
          (with_reducible refine ⟨?_⟩); (with_reducible refine at_any ?_ ?_); (focus go_simp); refine fun K0 hK => ld_v _ _ v' rfl rfl g6V.out (hK _ _ ?_)
          clear hK
          go_wp2_with (first | (with_reducible refine stop_load (t := 30) ?_) | (with_reducible refine stop_store (t := 30) ?_) | (with_reducible refine stop_load (t := 33) ?_) | (with_reducible refine stop_store (t := 33) ?_) | (with_reducible refine stop_load (t := 39) ?_) | (with_reducible refine stop_store (t := 39) ?_) | (with_reducible refine stop_load (t := 27) ?_) | (with_reducible refine stop_store (t := 27) ?_) | (with_reducible refine stop_load (t := 24) ?_) | (with_reducible refine stop_store (t := 24) ?_) | (with_reducible refine stop_build ?_) | (with_reducible refine stop_eql (t := 27) ?_) | (with_reducible refine stop_neq (t := 27) ?_) | (with_reducible refine stop_eql (t := 24) ?_) | (with_reducible refine stop_neq (t := 24) ?_) | (with_reducible refine stop_load (t := 36) ?_))
          refine (rright_any v' w9 VI1.out).mono ?_
          rintro e w10 ⟨rfl, xx⟩
          rw [HRI.out]
          replace V0 := Lib.hid (V0.out.ext xx)
          replace g6V := Lib.hid (g6V.out.ext xx)
          replace VN1 := Lib.hid (VN1.out.ext xx)
          replace VI1 := Lib.hid (VI1.out.ext xx)
          replace BW := Lib.hid (Ex.trans BW.out xx)
          clear xx HRI
          go_wp2_with (first | (with_reducible refine stop_load (t := 30) ?_) | (with_reducible refine stop_store (t := 30) ?_) | (with_reducible refine stop_load (t := 33) ?_) | (with_reducible refine stop_store (t := 33) ?_) | (with_reducible refine stop_load (t := 39) ?_) | (with_reducible refine stop_store (t := 39) ?_) | (with_reducible refine stop_load (t := 27) ?_) | (with_reducible refine stop_store (t := 27) ?_) | (with_reducible refine stop_load (t := 24) ?_) | (with_reducible refine stop_store (t := 24) ?_) | (with_reducible refine stop_build ?_) | (with_reducible refine stop_eql (t := 27) ?_) | (with_reducible refine stop_neq (t := 27) ?_) | (with_reducible refine stop_eql (t := 24) ?_) | (with_reducible refine stop_neq (t := 24) ?_) | (with_reducible refine stop_load (t := 36) ?_))
          (with_reducible refine ⟨?_⟩); (with_reducible refine at_any ?_ ?_); (focus go_simp); refine fun K0 hK => ld_v _ _ v' rfl rfl g6V.out (hK _ _ ?_)
          clear hK
          go_wp2_with (first | (with_reducible refine stop_load (t := 30) ?_) | (with_reducible refine stop_store (t := 30) ?_) | (with_reducible refine stop_load (t := 33) ?_) | (with_reducible refine stop_store (t := 33) ?_) | (with_reducible refine stop_load (t := 39) ?_) | (with_reducible refine stop_store (t := 39) ?_) | (with_reducible refine stop_load (t := 27) ?_) | (with_reducible refine stop_store (t := 27) ?_) | (with_reducible refine stop_load (t := 24) ?_) | (with_reducible refine stop_store (t := 24) ?_) | (with_reducible refine stop_build ?_) | (with_reducible refine stop_eql (t := 27) ?_) | (with_reducible refine stop_neq (t := 27) ?_) | (with_reducible refine stop_eql (t := 24) ?_) | (with_reducible refine stop_neq (t := 24) ?_) | (with_reducible refine stop_load (t := 36) ?_))
          (with_reducible refine ⟨?_⟩); (with_reducible refine at_any ?_ ?_); (focus go_simp); refine fun K0 hK => st_v _ _ B v' rfl rfl rfl VI1.out.ok V0.out.2 (by rw [List.size_toArray, Vt.len V0.out.1]) (fun w11 hd ho => hK _ _ ?_)
          clear hK
          replace V0 := Lib.hid hd
          have VN2 := Lib.hid (show VN w11 (B + 1) v' from ⟨VI1.out.ok, VN1.out.only ho (Nat.lt_succ_self B)⟩)
          replace BW := Lib.hid (ho.below w.heap.size (by rw [← HB.out]; exact Nat.le_refl _) w BW.out)
          clear hd ho
          go_wp2_with (first | (with_reducible refine stop_load (t := 30) ?_) | (with_reducible refine stop_store (t := 30) ?_) | (with_reducible refine stop_load (t := 33) ?_) | (with_reducible refine stop_store (t := 33) ?_) | (with_reducible refine stop_load (t := 39) ?_) | (with_reducible refine stop_store (t := 39) ?_) | (with_reducible refine stop_load (t := 27) ?_) | (with_reducible refine stop_store (t := 27) ?_) | (with_reducible refine stop_load (t := 24) ?_) | (with_reducible refine stop_store (t := 24) ?_) | (with_reducible refine stop_build ?_) | (with_reducible refine stop_eql (t := 27) ?_) | (with_reducible refine stop_neq (t := 27) ?_) | (with_reducible refine stop_eql (t := 24) ?_) | (with_reducible refine stop_neq (t := 24) ?_) | (with_reducible refine stop_load (t := 36) ?_))
          go_roundw
          case rel => exact ⟨k + 1, v', by omega, by go_num, V0, VN2, KP1, BW⟩
          case measure => simp [intOf]; omega
      · have HGE : Hid (v'.gen = v.gen) := Lib.hid (F.out.no (fun h => by have h3 := h.o; rw [show q7.ct.op = _ from HOP.out.symm] at h3; revert h3; decide))
        clear F
        obtain ⟨q0c, q21, q22, q55, q56⟩ := Q1.out.cells
        rw [← HOP.out] at q0c
        obtain ⟨r0, r5, r6, r7, r8, r9⟩ := g6R.out.cells
        obtain ⟨v4, v21, v22, v23, v40, v41⟩ := V0.out.cells
        obtain ⟨n4, n21, n22, n23, n40, n41⟩ := g6V.out.cells
        rw [EQ.out.2.1] at r9
        rw [EQ.out.2.2.1] at r8
        rw [EQ.out.2.2.2] at r5
        clear q21 q22 r6 r7 v21 v22 v23 v40 v41 n21 n22 n23 n40 n41
        go_wp2_with (first | (with_reducible refine stop_load (t := 30) ?_) | (with_reducible refine stop_store (t := 30) ?_) | (with_reducible refine stop_load (t := 33) ?_) | (with_reducible refine stop_store (t := 33) ?_) | (with_reducible refine stop_load (t := 39) ?_) | (with_reducible refine stop_store (t := 39) ?_) | (with_reducible refine stop_load (t := 27) ?_) | (with_reducible refine stop_store (t := 27) ?_) | (with_reducible refine stop_load (t := 24) ?_) | (with_reducible refine stop_store (t := 24) ?_) | (with_reducible refine stop_build ?_) | (with_reducible refine stop_eql (t := 27) ?_) | (with_reducible refine stop_neq (t := 27) ?_) | (with_reducible refine stop_eql (t := 24) ?_) | (with_reducible refine stop_neq (t := 24) ?_) | (with_reducible refine stop_eql (t := 37) ?_))
        (with_reducible refine ⟨?_⟩); (with_reducible refine at_any ?_ ?_); (focus go_simp); refine fun K0 hK => wp_eql_err _ _ _ rfl r.why 0 rfl rfl (hK _ _ ?_)
        clear hK
        rw [decide_eq_true HW.out]
        have hge : v'.gen = v.gen := HGE.out
        rw [hge] at r5 n4
        clear hge
        go_wp2_with (first | (with_reducible refine stop_load (t := 30) ?_) | (with_reducible refine stop_store (t := 30) ?_) | (with_reducible refine stop_load (t := 33) ?_) | (with_reducible refine stop_store (t := 33) ?_) | (with_reducible refine stop_load (t := 39) ?_) | (with_reducible refine stop_store (t := 39) ?_) | (with_reducible refine stop_load (t := 27) ?_) | (with_reducible refine stop_store (t := 27) ?_) | (with_reducible refine stop_load (t := 24) ?_) | (with_reducible refine stop_store (t := 24) ?_) | (with_reducible refine stop_build ?_) | (with_reducible refine stop_eql (t := 27) ?_) | (with_reducible refine stop_neq (t := 27) ?_) | (with_reducible refine stop_eql (t := 24) ?_) | (with_reducible refine stop_neq (t := 24) ?_) | (with_reducible refine stop_load (t := 36) ?_))
        (with_reducible refine ⟨?_⟩); (with_reducible refine at_any ?_ ?_); (focus go_simp); refine fun K0 hK => ld_rid _ _ r rfl rfl g6R.out (hK _ _ ?_)
        clear hK
        go_wp2_with (first | (with_reducible refine stop_load (t := 30) ?_) | (with_reducible refine stop_store (t := 30) ?_) | (with_reducible refine stop_load (t := 33) ?_) | (with_reducible refine stop_store (t := 33) ?_) | (with_reducible refine stop_load (t := 39) ?_) | (with_reducible refine stop_store (t := 39) ?_) | (with_reducible refine stop_load (t := 27) ?_) | (with_reducible refine stop_store (t := 27) ?_) | (with_reducible refine stop_load (t := 24) ?_) | (with_reducible refine stop_store (t := 24) ?_) | (with_reducible refine stop_build ?_) | (with_reducible refine stop_eql (t := 27) ?_) | (with_reducible refine stop_neq (t := 27) ?_) | (with_reducible refine stop_eql (t := 24) ?_) | (with_reducible refine stop_neq (t := 24) ?_) | (with_reducible refine stop_load (t := 36) ?_))
        (with_reducible refine ⟨?_⟩); (with_reducible refine at_any ?_ ?_); (focus go_simp); refine fun K0 hK => ld_qid _ _ q7 rfl rfl Q1.out (hK _ _ ?_)
        clear hK
        go_wp2_with (first | (with_reducible refine stop_load (t := 30) ?_) | (with_reducible refine stop_store (t := 30) ?_) | (with_reducible refine stop_load (t := 33) ?_) | (with_reducible refine stop_store (t := 33) ?_) | (with_reducible refine stop_load (t := 39) ?_) | (with_reducible refine stop_store (t := 39) ?_) | (with_reducible refine stop_load (t := 27) ?_) | (with_reducible refine stop_store (t := 27) ?_) | (with_reducible refine stop_load (t := 24) ?_) | (with_reducible refine stop_store (t := 24) ?_) | (with_reducible refine stop_build ?_) | (with_reducible refine stop_eql (t := 27) ?_) | (with_reducible refine stop_neq (t := 27) ?_) | (with_reducible refine stop_eql (t := 24) ?_) | (with_reducible refine stop_neq (t := 24) ?_) | (with_reducible refine stop_load (t := 36) ?_))
        (with_reducible refine ⟨?_⟩); (with_reducible refine at_any ?_ ?_); (focus go_simp); refine fun K0 hK => wp_neq_id _ _ _ rfl r.id q7.id RO.out.idN Q1.out.1.idN rfl rfl (hK _ _ ?_)
        clear hK
        rw [decide_eq_true (show r.id = q7.id from EQ.out.1)]
        simp only [Bool.not_true]
        go_wp2_with (first | (with_reducible refine stop_load (t := 30) ?_) | (with_reducible refine stop_store (t := 30) ?_) | (with_reducible refine stop_load (t := 33) ?_) | (with_reducible refine stop_store (t := 33) ?_) | (with_reducible refine stop_load (t := 39) ?_) | (with_reducible refine stop_store (t := 39) ?_) | (with_reducible refine stop_load (t := 27) ?_) | (with_reducible refine stop_store (t := 27) ?_) | (with_reducible refine stop_load (t := 24) ?_) | (with_reducible refine stop_store (t := 24) ?_) | (with_reducible refine stop_build ?_) | (with_reducible refine stop_eql (t := 27) ?_) | (with_reducible refine stop_neq (t := 27) ?_) | (with_reducible refine stop_eql (t := 24) ?_) | (with_reducible refine stop_neq (t := 24) ?_) | (with_reducible refine stop_load (t := 36) ?_))
        (with_reducible refine ⟨?_⟩); (with_reducible refine at_any ?_ ?_); (focus go_simp); refine fun K0 hK => ld_v _ _ v' rfl rfl g6V.out (hK _ _ ?_)
        clear hK
        go_wp2_with (first | (with_reducible refine stop_load (t := 30) ?_) | (with_reducible refine stop_store (t := 30) ?_) | (with_reducible refine stop_load (t := 33) ?_) | (with_reducible refine stop_store (t := 33) ?_) | (with_reducible refine stop_load (t := 39) ?_) | (with_reducible refine stop_store (t := 39) ?_) | (with_reducible refine stop_load (t := 27) ?_) | (with_reducible refine stop_store (t := 27) ?_) | (with_reducible refine stop_load (t := 24) ?_) | (with_reducible refine stop_store (t := 24) ?_) | (with_reducible refine stop_build ?_) | (with_reducible refine stop_eql (t := 27) ?_) | (with_reducible refine stop_neq (t := 27) ?_) | (with_reducible refine stop_eql (t := 24) ?_) | (with_reducible refine stop_neq (t := 24) ?_) | (with_reducible refine stop_load (t := 36) ?_))
        refine (none_any v' w8 VI1.out).mono ?_
        rintro e w9 ⟨rfl, xx⟩
        replace V0 := Lib.hid (V0.out.ext xx)
        replace g6V := Lib.hid (g6V.out.ext xx)
        replace VN1 := Lib.hid (VN1.out.ext xx)
        replace VI1 := Lib.hid (VI1.out.ext xx)
        replace BW := Lib.hid (Ex.trans BW.out xx)
        clear xx q0c q55 q56 r0 r5 r8 r9 v4 n4 Q1 g6R EQ gb0 gb1
        by_cases hnz : v'.ct = zeroVc
        case pos =>
          rw [decide_eq_true hnz]
          clear hnz
          go_wp2_with (first | (with_reducible refine stop_load (t := 30) ?_) | (with_reducible refine stop_store (t := 30) ?_) | (with_reducible refine stop_load (t := 33) ?_) | (with_reducible refine stop_store (t := 33) ?_) | (with_reducible refine stop_load (t := 39) ?_) | (with_reducible refine stop_store (t := 39) ?_) | (with_reducible refine stop_load (t := 27) ?_) | (with_reducible refine stop_store (t := 27) ?_) | (with_reducible refine stop_load (t := 24) ?_) | (with_reducible refine stop_store (t := 24) ?_) | (with_reducible refine stop_build ?_) | (with_reducible refine stop_eql (t := 27) ?_) | (with_reducible refine stop_neq (t := 27) ?_) | (with_reducible refine stop_eql (t := 24) ?_) | (with_reducible refine stop_neq (t := 24) ?_) | (with_reducible refine stop_load (t := 36) ?_))
          (first | ((with_reducible refine ⟨?_⟩); (with_reducible refine at_not ?_ ?_); (focus (go_simp; done)); go_wp2_with (first | (with_reducible refine stop_load (t := 30) ?_) | (with_reducible refine stop_store (t := 30) ?_) | (with_reducible refine stop_load (t := 33) ?_) | (with_reducible refine stop_store (t := 33) ?_) | (with_reducible refine stop_load (t := 39) ?_) | (with_reducible refine stop_store (t := 39) ?_) | (with_reducible refine stop_load (t := 27) ?_) | (with_reducible refine stop_store (t := 27) ?_) | (with_reducible refine stop_load (t := 24) ?_) | (with_reducible refine stop_store (t := 24) ?_) | (with_reducible refine stop_build ?_) | (with_reducible refine stop_eql (t := 27) ?_) | (with_reducible refine stop_neq (t := 27) ?_) | (with_reducible refine stop_eql (t := 24) ?_) | (with_reducible refine stop_neq (t := 24) ?_) | (with_reducible refine stop_load (t := 36) ?_))) | skip)
          (first | ((with_reducible refine ⟨?_⟩); (with_reducible refine at_not ?_ ?_); (focus (go_simp; done)); go_wp2_with (first | (with_reducible refine stop_load (t := 30) ?_) | (with_reducible refine stop_store (t := 30) ?_) | (with_reducible refine stop_load (t := 33) ?_) | (with_reducible refine stop_store (t := 33) ?_) | (with_reducible refine stop_load (t := 39) ?_) | (with_reducible refine stop_store (t := 39) ?_) | (with_reducible refine stop_load (t := 27) ?_) | (with_reducible refine stop_store (t := 27) ?_) | (with_reducible refine stop_load (t := 24) ?_) | (with_reducible refine stop_store (t := 24) ?_) | (with_reducible refine stop_build ?_) | (with_reducible refine stop_eql (t := 27) ?_) | (with_reducible refine stop_neq (t := 27) ?_) | (with_reducible refine stop_eql (t := 24) ?_) | (with_reducible refine stop_neq (t := 24) ?_) | (with_reducible refine stop_load (t := 36) ?_))) | skip)
          (with_reducible refine ⟨?_⟩); (with_reducible refine at_any ?_ ?_); (focus go_simp); refine fun K0 hK => ld_v _ _ v' rfl rfl g6V.out (hK _ _ ?_)
          clear hK
          go_wp2_with (first | (with_reducible refine stop_load (t := 30) ?_) | (with_reducible refine stop_store (t := 30) ?_) | (with_reducible refine stop_load (t := 33) ?_) | (with_reducible refine stop_store (t := 33) ?_) | (with_reducible refine stop_load (t := 39) ?_) | (with_reducible refine stop_store (t := 39) ?_) | (with_reducible refine stop_load (t := 27) ?_) | (with_reducible refine stop_store (t := 27) ?_) | (with_reducible refine stop_load (t := 24) ?_) | (with_reducible refine stop_store (t := 24) ?_) | (with_reducible refine stop_build ?_) | (with_reducible refine stop_eql (t := 27) ?_) | (with_reducible refine stop_neq (t := 27) ?_) | (with_reducible refine stop_eql (t := 24) ?_) | (with_reducible refine stop_neq (t := 24) ?_) | (with_reducible refine stop_load (t := 36) ?_))
          (with_reducible refine ⟨?_⟩); (with_reducible refine at_any ?_ ?_); (focus go_simp); refine fun K0 hK => st_v _ _ B v' rfl rfl rfl VI1.out.ok V0.out.2 (by rw [List.size_toArray, Vt.len V0.out.1]) (fun w11 hd ho => hK _ _ ?_)
          clear hK
          replace V0 := Lib.hid hd
          have VN2 := Lib.hid (show VN w11 (B + 1) v' from ⟨VI1.out.ok, VN1.out.only ho (Nat.lt_succ_self B)⟩)
          replace BW := Lib.hid (ho.below w.heap.size (by rw [← HB.out]; exact Nat.le_refl _) w BW.out)
          clear hd ho
          go_wp2_with (first | (with_reducible refine stop_load (t := 30) ?_) | (with_reducible refine stop_store (t := 30) ?_) | (with_reducible refine stop_load (t := 33) ?_) | (with_reducible refine stop_store (t := 33) ?_) | (with_reducible refine stop_load (t := 39) ?_) | (with_reducible refine stop_store (t := 39) ?_) | (with_reducible refine stop_load (t := 27) ?_) | (with_reducible refine stop_store (t := 27) ?_) | (with_reducible refine stop_load (t := 24) ?_) | (with_reducible refine stop_store (t := 24) ?_) | (with_reducible refine stop_build ?_) | (with_reducible refine stop_eql (t := 27) ?_) | (with_reducible refine stop_neq (t := 27) ?_) | (with_reducible refine stop_eql (t := 24) ?_) | (with_reducible refine stop_neq (t := 24) ?_) | (with_reducible refine stop_load (t := 36) ?_))
          go_roundw
          case rel => exact ⟨k + 1, v', by omega, by go_num, V0, VN2, KP1, BW⟩
          case measure => simp [intOf]; omega
        case neg =>
          have HRI : Hid (v'.ct.right = true) := Lib.hid (KP1.out.elim (fun h => absurd h hnz) (fun h => h.1))
          rw [decide_eq_false hnz]
          clear hnz
          go_wp2_with (first | (with_reducible refine stop_load (t := 30) ?_) | (with_reducible refine stop_store (t := 30) ?_) | (with_reducible refine stop_load (t := 33) ?_) | (with_reducible refine stop_store (t := 33) ?_) | (with_reducible refine stop_load (t := 39) ?_) | (with_reducible refine stop_store (t := 39) ?_) | (with_reducible refine stop_load (t := 27) ?_) | (with_reducible refine stop_store (t := 27) ?_) | (with_reducible refine stop_load (t := 24) ?_) | (with_reducible refine stop_store (t := 24) ?_) | (with_reducible refine stop_build ?_) | (with_reducible refine stop_eql (t := 27) ?_) | (with_reducible refine stop_neq (t := 27) ?_) | (with_reducible refine stop_eql (t := 24) ?_) | (with_reducible refine stop_neq (t := 24) ?_) | (with_reducible refine stop_load (t := 36) ?_))
          (with_reducible refine ⟨?_⟩); (with_reducible refine at_any ?_ ?_); (focus go_simp); refine fun K0 hK => ld_v _ _ v' rfl rfl g6V.out (hK _ _ ?_)
          clear hK
          go_wp2_with (first | (with_reducible refine stop_load (t := 30) ?_) | (with_reducible refine stop_store (t := 30) ?_) | (with_reducible refine stop_load (t := 33) ?_) | (with_reducible refine stop_store (t := 33) ?_) | (with_reducible refine stop_load (t := 39) ?_) | (with_reducible refine stop_store (t := 39) ?_) | (with_reducible refine stop_load (t := 27) ?_) | (with_reducible refine stop_store (t := 27) ?_) | (with_reducible refine stop_load (t := 24) ?_) | (with_reducible refine stop_store (t := 24) ?_) | (with_reducible refine stop_build ?_) | (with_reducible refine stop_eql (t := 27) ?_) | (with_reducible refine stop_neq (t := 27) ?_) | (with_reducible refine stop_eql (t := 24) ?_) | (with_reducible refine stop_neq (t := 24) ?_) | (with_reducible refine stop_load (t := 36) ?_))
          refine (rright_any v' w9 VI1.out).mono ?_
          rintro e w10 ⟨rfl, xx⟩
          rw [HRI.out]
          replace V0 := Lib.hid (V0.out.ext xx)
          replace g6V := Lib.hid (g6V.out.ext xx)
          replace VN1 := Lib.hid (VN1.out.ext xx)
          replace VI1 := Lib.hid (VI1.out.ext xx)
          replace BW := Lib.hid (Ex.trans BW.out xx)
          clear xx HRI
          go_wp2_with (first | (with_reducible refine stop_load (t := 30) ?_) | (with_reducible refine stop_store (t := 30) ?_) | (with_reducible refine stop_load (t := 33) ?_) | (with_reducible refine stop_store (t := 33) ?_) | (with_reducible refine stop_load (t := 39) ?_) | (with_reducible refine stop_store (t := 39) ?_) | (with_reducible refine stop_load (t := 27) ?_) | (with_reducible refine stop_store (t := 27) ?_) | (with_reducible refine stop_load (t := 24) ?_) | (with_reducible refine stop_store (t := 24) ?_) | (with_reducible refine stop_build ?_) | (with_reducible refine stop_eql (t := 27) ?_) | (with_reducible refine stop_neq (t := 27) ?_) | (with_reducible refine stop_eql (t := 24) ?_) | (with_reducible refine stop_neq (t := 24) ?_) | (with_reducible refine stop_load (t := 36) ?_))
          (with_reducible refine ⟨?_⟩); (with_reducible refine at_any ?_ ?_); (focus go_simp); refine fun K0 hK => ld_v _ _ v' rfl rfl g6V.out (hK _ _ ?_)
          clear hK
          go_wp2_with (first | (with_reducible refine stop_load (t := 30) ?_) | (with_reducible refine stop_store (t := 30) ?_) | (with_reducible refine stop_load (t := 33) ?_) | (with_reducible refine stop_store (t := 33) ?_) | (with_reducible refine stop_load (t := 39) ?_) | (with_reducible refine stop_store (t := 39) ?_) | (with_reducible refine stop_load (t := 27) ?_) | (with_reducible refine stop_store (t := 27) ?_) | (with_reducible refine stop_load (t := 24) ?_) | (with_reducible refine stop_store (t := 24) ?_) | (with_reducible refine stop_build ?_) | (with_reducible refine stop_eql (t := 27) ?_) | (with_reducible refine stop_neq (t := 27) ?_) | (with_reducible refine stop_eql (t := 24) ?_) | (with_reducible refine stop_neq (t := 24) ?_) | (with_reducible refine stop_load (t := 36) ?_))
          (with_reducible refine ⟨?_⟩); (with_reducible refine at_any ?_ ?_); (focus go_simp); refine fun K0 hK => st_v _ _ B v' rfl rfl rfl VI1.out.ok V0.out.2 (by rw [List.size_toArray, Vt.len V0.out.1]) (fun w11 hd ho => hK _ _ ?_)
          clear hK
          replace V0 := Lib.hid hd
          have VN2 := Lib.hid (show VN w11 (B + 1) v' from ⟨VI1.out.ok, VN1.out.only ho (Nat.lt_succ_self B)⟩)
          replace BW := Lib.hid (ho.below w.heap.size (by rw [← HB.out]; exact Nat.le_refl _) w BW.out)
          clear hd ho
          go_wp2_with (first | (with_reducible refine stop_load (t := 30) ?_) | (with_reducible refine stop_store (t := 30) ?_) | (with_reducible refine stop_load (t := 33) ?_) | (with_reducible refine stop_store (t := 33) ?_) | (with_reducible refine stop_load (t := 39) ?_) | (with_reducible refine stop_store (t := 39) ?_) | (with_reducible refine stop_load (t := 27) ?_) | (with_reducible refine stop_store (t := 27) ?_) | (with_reducible refine stop_load (t := 24) ?_) | (with_reducible refine stop_store (t := 24) ?_) | (with_reducible refine stop_build ?_) | (with_reducible refine stop_eql (t := 27) ?_) | (with_reducible refine stop_neq (t := 27) ?_) | (with_reducible refine stop_eql (t := 24) ?_) | (with_reducible refine stop_neq (t := 24) ?_) | (with_reducible refine stop_load (t := 36) ?_))
          go_roundw
          case rel => exact ⟨k + 1, v', by omega, by go_num, V0, VN2, KP1, BW⟩
          case measure => simp [intOf]; omega
      · have HGE : Hid (v'.gen = v.gen + 1) := Lib.hid (F.out.yes ⟨rfl, HW.out, by rw [show q7.ct.op = _ from HOP.out.symm]; decide⟩)
        clear F
        obtain ⟨q0c, q21, q22, q55, q56⟩ := Q1.out.cells
        rw [← HOP.out] at q0c
        obtain ⟨r0, r5, r6, r7, r8, r9⟩ := g6R.out.cells
        obtain ⟨v4, v21, v22, v23, v40, v41⟩ := V0.out.cells
        obtain ⟨n4, n21, n22, n23, n40, n41⟩ := g6V.out.cells
        rw [EQ.out.2.1] at r9
        rw [EQ.out.2.2.1] at r8
        rw [EQ.out.2.2.2] at r5
        clear q21 q22 r6 r7 v21 v22 v23 v40 v41 n21 n22 n23 n40 n41
        go_wp2_with (first | (with_reducible refine stop_load (t := 30) ?_) | (with_reducible refine stop_store (t := 30) ?_) | (with_reducible refine stop_load (t := 33) ?_) | (with_reducible refine stop_store (t := 33) ?_) | (with_reducible refine stop_load (t := 39) ?_) | (with_reducible refine stop_store (t := 39) ?_) | (with_reducible refine stop_load (t := 27) ?_) | (with_reducible refine stop_store (t := 27) ?_) | (with_reducible refine stop_load (t := 24) ?_) | (with_reducible refine stop_store (t := 24) ?_) | (with_reducible refine stop_build ?_) | (with_reducible refine stop_eql (t := 27) ?_) | (with_reducible refine stop_neq (t := 27) ?_) | (with_reducible refine stop_eql (t := 24) ?_) | (with_reducible refine stop_neq (t := 24) ?_) | (with_reducible refine stop_eql (t := 37) ?_))
        (with_reducible refine ⟨?_⟩); (with_reducible refine at_any ?_ ?_); (focus go_simp); refine fun K0 hK => wp_eql_err _ _ _ rfl r.why 0 rfl rfl (hK _ _ ?_)
        clear hK
        rw [decide_eq_true HW.out]
        have hge : v'.gen = v.gen + 1 := HGE.out
        rw [hge] at r5 n4
        clear hge
        go_wp2_with (first | (with_reducible refine stop_load (t := 30) ?_) | (with_reducible refine stop_store (t := 30) ?_) | (with_reducible refine stop_load (t := 33) ?_) | (with_reducible refine stop_store (t := 33) ?_) | (with_reducible refine stop_load (t := 39) ?_) | (with_reducible refine stop_store (t := 39) ?_) | (with_reducible refine stop_load (t := 27) ?_) | (with_reducible refine stop_store (t := 27) ?_) | (with_reducible refine stop_load (t := 24) ?_) | (with_reducible refine stop_store (t := 24) ?_) | (with_reducible refine stop_build ?_) | (with_reducible refine stop_eql (t := 27) ?_) | (with_reducible refine stop_neq (t := 27) ?_) | (with_reducible refine stop_eql (t := 24) ?_) | (with_reducible refine stop_neq (t := 24) ?_) | (with_reducible refine stop_load (t := 36) ?_))
        (with_reducible refine ⟨?_⟩); (with_reducible refine at_any ?_ ?_); (focus go_simp); refine fun K0 hK => ld_rid _ _ r rfl rfl g6R.out (hK _ _ ?_)
        clear hK
        go_wp2_with (first | (with_reducible refine stop_load (t := 30) ?_) | (with_reducible refine stop_store (t := 30) ?_) | (with_reducible refine stop_load (t := 33) ?_) | (with_reducible refine stop_store (t := 33) ?_) | (with_reducible refine stop_load (t := 39) ?_) | (with_reducible refine stop_store (t := 39) ?_) | (with_reducible refine stop_load (t := 27) ?_) | (with_reducible refine stop_store (t := 27) ?_) | (with_reducible refine stop_load (t := 24) ?_) | (with_reducible refine stop_store (t := 24) ?_) | (with_reducible refine stop_build ?_) | (with_reducible refine stop_eql (t := 27) ?_) | (with_reducible refine stop_neq (t := 27) ?_) | (with_reducible refine stop_eql (t := 24) ?_) | (with_reducible refine stop_neq (t := 24) ?_) | (with_reducible refine stop_load (t := 36) ?_))
        (with_reducible refine ⟨?_⟩); (with_reducible refine at_any ?_ ?_); (focus go_simp); refine fun K0 hK => ld_qid _ _ q7 rfl rfl Q1.out (hK _ _ ?_)
        clear hK
        go_wp2_with (first | (with_reducible refine stop_load (t := 30) ?_) | (with_reducible refine stop_store (t := 30) ?_) | (with_reducible refine stop_load (t := 33) ?_) | (with_reducible refine stop_store (t := 33) ?_) | (with_reducible refine stop_load (t := 39) ?_) | (with_reducible refine stop_store (t := 39) ?_) | (with_reducible refine stop_load (t := 27) ?_) | (with_reducible refine stop_store (t := 27) ?_) | (with_reducible refine stop_load (t := 24) ?_) | (with_reducible refine stop_store (t := 24) ?_) | (with_reducible refine stop_build ?_) | (with_reducible refine stop_eql (t := 27) ?_) | (with_reducible refine stop_neq (t := 27) ?_) | (with_reducible refine stop_eql (t := 24) ?_) | (with_reducible refine stop_neq (t := 24) ?_) | (with_reducible refine stop_load (t := 36) ?_))
        (with_reducible refine ⟨?_⟩); (with_reducible refine at_any ?_ ?_); (focus go_simp); refine fun K0 hK => wp_neq_id _ _ _ rfl r.id q7.id RO.out.idN Q1.out.1.idN rfl rfl (hK _ _ ?_)
        clear hK
        rw [decide_eq_true (show r.id = q7.id from EQ.out.1)]
        simp only [Bool.not_true]
        go_wp2_with (first | (with_reducible refine stop_load (t := 30) ?_) | (with_reducible refine stop_store (t := 30) ?_) | (with_reducible refine stop_load (t := 33) ?_) | (with_reducible refine stop_store (t := 33) ?_) | (with_reducible refine stop_load (t := 39) ?_) | (with_reducible refine stop_store (t := 39) ?_) | (with_reducible refine stop_load (t := 27) ?_) | (with_reducible refine stop_store (t := 27) ?_) | (with_reducible refine stop_load (t := 24) ?_) | (with_reducible refine stop_store (t := 24) ?_) | (with_reducible refine stop_build ?_) | (with_reducible refine stop_eql (t := 27) ?_) | (with_reducible refine stop_neq (t := 27) ?_) | (with_reducible refine stop_eql (t := 24) ?_) | (with_reducible refine stop_neq (t := 24) ?_) | (with_reducible refine stop_load (t := 36) ?_))
        (with_reducible refine ⟨?_⟩); (with_reducible refine at_any ?_ ?_); (focus go_simp); refine fun K0 hK => ld_v _ _ v' rfl rfl g6V.out (hK _ _ ?_)
        clear hK
        go_wp2_with (first | (with_reducible refine stop_load (t := 30) ?_) | (with_reducible refine stop_store (t := 30) ?_) | (with_reducible refine stop_load (t := 33) ?_) | (with_reducible refine stop_store (t := 33) ?_) | (with_reducible refine stop_load (t := 39) ?_) | (with_reducible refine stop_store (t := 39) ?_) | (with_reducible refine stop_load (t := 27) ?_) | (with_reducible refine stop_store (t := 27) ?_) | (with_reducible refine stop_load (t := 24) ?_) | (with_reducible refine stop_store (t := 24) ?_) | (with_reducible refine stop_build ?_) | (with_reducible refine stop_eql (t := 27) ?_) | (with_reducible refine stop_neq (t := 27) ?_) | (with_reducible refine stop_eql (t := 24) ?_) | (with_reducible refine stop_neq (t := 24) ?_) | (with_reducible refine stop_load (t := 36) ?_))
        refine (none_any v' w8 VI1.out).mono ?_
        rintro e w9 ⟨rfl, xx⟩
        replace V0 := Lib.hid (V0.out.ext xx)
        replace g6V := Lib.hid (g6V.out.ext xx)
        replace VN1 := Lib.hid (VN1.out.ext xx)
        replace VI1 := Lib.hid (VI1.out.ext xx)
        replace BW := Lib.hid (Ex.trans BW.out xx)
        clear xx q0c q55 q56 r0 r5 r8 r9 v4 n4 Q1 g6R EQ gb0 gb1
        by_cases hnz : v'.ct = zeroVc
        case pos =>
          rw [decide_eq_true hnz]
          clear hnz
          go_wp2_with (first | (with_reducible refine stop_load (t := 30) ?_) | (with_reducible refine stop_store (t := 30) ?_) | (with_reducible refine stop_load (t := 33) ?_) | (with_reducible refine stop_store (t := 33) ?_) | (with_reducible refine stop_load (t := 39) ?_) | (with_reducible refine stop_store (t := 39) ?_) | (with_reducible refine stop_load (t := 27) ?_) | (with_reducible refine stop_store (t := 27) ?_) | (with_reducible refine stop_load (t := 24) ?_) | (with_reducible refine stop_store (t := 24) ?_) | (with_reducible refine stop_build ?_) | (with_reducible refine stop_eql (t := 27) ?_) | (with_reducible refine stop_neq (t := 27) ?_) | (with_reducible refine stop_eql (t := 24) ?_) | (with_reducible refine stop_neq (t := 24) ?_) | (with_reducible refine stop_load (t := 36) ?_))
          (first | ((with_reducible refine ⟨?_⟩); (with_reducible refine at_not ?_ ?_); (focus (go_simp; done)); go_wp2_with (first | (with_reducible refine stop_load (t := 30) ?_) | (with_reducible refine stop_store (t := 30) ?_) | (with_reducible refine stop_load (t := 33) ?_) | (with_reducible refine stop_store (t := 33) ?_) | (with_reducible refine stop_load (t := 39) ?_) | (with_reducible refine stop_store (t := 39) ?_) | (with_reducible refine stop_load (t := 27) ?_) | (with_reducible refine stop_store (t := 27) ?_) | (with_reducible refine stop_load (t := 24) ?_) | (with_reducible refine stop_store (t := 24) ?_) | (with_reducible refine stop_build ?_) | (with_reducible refine stop_eql (t := 27) ?_) | (with_reducible refine stop_neq (t := 27) ?_) | (with_reducible refine stop_eql (t := 24) ?_) | (with_reducible refine stop_neq (t := 24) ?_) | (with_reducible refine stop_load (t := 36) ?_))) | skip)
          (first | ((with_reducible refine ⟨?_⟩); (with_reducible refine at_not ?_ ?_); (focus (go_simp; done)); go_wp2_with (first | (with_reducible refine stop_load (t := 30) ?_) | (with_reducible refine stop_store (t := 30) ?_) | (with_reducible refine stop_load (t := 33) ?_) | (with_reducible refine stop_store (t := 33) ?_) | (with_reducible refine stop_load (t := 39) ?_) | (with_reducible refine stop_store (t := 39) ?_) | (with_reducible refine stop_load (t := 27) ?_) | (with_reducible refine stop_store (t := 27) ?_) | (with_reducible refine stop_load (t := 24) ?_) | (with_reducible refine stop_store (t := 24) ?_) | (with_reducible refine stop_build ?_) | (with_reducible refine stop_eql (t := 27) ?_) | (with_reducible refine stop_neq (t := 27) ?_) | (with_reducible refine stop_eql (t := 24) ?_) | (with_reducible refine stop_neq (t := 24) ?_) | (with_reducible refine stop_load (t := 36) ?_))) | skip)
          (with_reducible refine ⟨?_⟩); (with_reducible refine at_any ?_ ?_); (focus go_simp); refine fun K0 hK => ld_v _ _ v' rfl rfl g6V.out (hK _ _ ?_)
          clear hK
          go_wp2_with (first | (with_reducible refine stop_load (t := 30) ?_) | (with_reducible refine stop_store (t := 30) ?_) | (with_reducible refine stop_load (t := 33) ?_) | (with_reducible refine stop_store (t := 33) ?_) | (with_reducible refine stop_load (t := 39) ?_) | (with_reducible refine stop_store (t := 39) ?_) | (with_reducible refine stop_load (t := 27) ?_) | (with_reducible refine stop_store (t := 27) ?_) | (with_reducible refine stop_load (t := 24) ?_) | (with_reducible refine stop_store (t := 24) ?_) | (with_reducible refine stop_build ?_) | (with_reducible refine stop_eql (t := 27) ?_) | (with_reducible refine stop_neq (t := 27) ?_) | (with_reducible refine stop_eql (t := 24) ?_) | (with_reducible refine stop_neq (t := 24) ?_) | (with_reducible refine stop_load (t := 36) ?_))
          (with_reducible refine ⟨?_⟩); (with_reducible refine at_any ?_ ?_); (focus go_simp); refine fun K0 hK => st_v _ _ B v' rfl rfl rfl VI1.out.ok V0.out.2 (by rw [List.size_toArray, Vt.len V0.out.1]) (fun w11 hd ho => hK _ _ ?_)
          clear hK
          replace V0 := Lib.hid hd
          have VN2 := Lib.hid (show VN w11 (B + 1) v' from ⟨VI1.out.ok, VN1.out.only ho (Nat.lt_succ_self B)⟩)
          replace BW := Lib.hid (ho.below w.heap.size (by rw [← HB.out]; exact Nat.le_refl _) w BW.out)
          clear hd ho
          go_wp2_with (first | (with_reducible refine stop_load (t := 30) ?_) | (with_reducible refine stop_store (t := 30) ?_) | (with_reducible refine stop_load (t := 33) ?_) | (with_reducible refine stop_store (t := 33) ?_) | (with_reducible refine stop_load (t := 39) ?_) | (with_reducible refine stop_store (t := 39) ?_) | (with_reducible refine stop_load (t := 27) ?_) | (with_reducible refine stop_store (t := 27) ?_) | (with_reducible refine stop_load (t := 24) ?_) | (with_reducible refine stop_store (t := 24) ?_) | (with_reducible refine stop_build ?_) | (with_reducible refine stop_eql (t := 27) ?_) | (with_reducible refine stop_neq (t := 27) ?_) | (with_reducible refine stop_eql (t := 24) ?_) | (with_reducible refine stop_neq (t := 24) ?_) | (with_reducible refine stop_load (t := 36) ?_))
          go_roundw
          case rel => exact ⟨k + 1, v', by omega, by go_num, V0, VN2, KP1, BW⟩
          case measure => simp [intOf]; omega
        case neg =>
          have HRI : Hid (v'.ct.right = true) := Lib.hid (KP1.out.elim (fun h => absurd h hnz) (fun h => h.1))
          rw [decide_eq_false hnz]
          clear hnz
          go_wp2_with (first | (with_reducible refine stop_load (t := 30) ?_) | (with_reducible refine stop_store (t := 30) ?_) | (with_reducible refine stop_load (t := 33) ?_) | (with_reducible refine stop_store (t := 33) ?_) | (with_reducible refine stop_load (t := 39) ?_) | (with_reducible refine stop_store (t := 39) ?_) | (with_reducible refine stop_load (t := 27) ?_) | (with_reducible refine stop_store (t := 27) ?_) | (with_reducible refine stop_load (t := 24) ?_) | (with_reducible refine stop_store (t := 24) ?_) | (with_reducible refine stop_build ?_) | (with_reducible refine stop_eql (t := 27) ?_) | (with_reducible refine stop_neq (t := 27) ?_) | (with_reducible refine stop_eql (t := 24) ?_) | (with_reducible refine stop_neq (t := 24) ?_) | (with_reducible refine stop_load (t := 36) ?_))
          (with_reducible refine ⟨?_⟩); (with_reducible refine at_any ?_ ?_); (focus go_simp); refine fun K0 hK => ld_v _ _ v' rfl rfl g6V.out (hK _ _ ?_)
          clear hK
          go_wp2_with (first | (with_reducible refine stop_load (t := 30) ?_) | (with_reducible refine stop_store (t := 30) ?_) | (with_reducible refine stop_load (t := 33) ?_) | (with_reducible refine stop_store (t := 33) ?_) | (with_reducible refine stop_load (t := 39) ?_) | (with_reducible refine stop_store (t := 39) ?_) | (with_reducible refine stop_load (t := 27) ?_) | (with_reducible refine stop_store (t := 27) ?_) | (with_reducible refine stop_load (t := 24) ?_) | (with_reducible refine stop_store (t := 24) ?_) | (with_reducible refine stop_build ?_) | (with_reducible refine stop_eql (t := 27) ?_) | (with_reducible refine stop_neq (t := 27) ?_) | (with_reducible refine stop_eql (t := 24) ?_) | (with_reducible refine stop_neq (t := 24) ?_) | (with_reducible refine stop_load (t := 36) ?_))
          refine (rright_any v' w9 VI1.out).mono ?_
          rintro e w10 ⟨rfl, xx⟩
          rw [HRI.out]
          replace V0 := Lib.hid (V0.out.ext xx)
          replace g6V := Lib.hid (g6V.out.ext xx)
          replace VN1 := Lib.hid (VN1.out.ext xx)
          replace VI1 := Lib.hid (VI1.out.ext xx)
          replace BW := Lib.hid (Ex.trans BW.out xx)
          clear xx HRI
          go_wp2_with (first | (with_reducible refine stop_load (t := 30) ?_) | (with_reducible refine stop_store (t := 30) ?_) | (with_reducible refine stop_load (t := 33) ?_) | (with_reducible refine stop_store (t := 33) ?_) | (with_reducible refine stop_load (t := 39) ?_) | (with_reducible refine stop_store (t := 39) ?_) | (with_reducible refine stop_load (t := 27) ?_) | (with_reducible refine stop_store (t := 27) ?_) | (with_reducible refine stop_load (t := 24) ?_) | (with_reducible refine stop_store (t := 24) ?_) | (with_reducible refine stop_build ?_) | (with_reducible refine stop_eql (t := 27) ?_) | (with_reducible refine stop_neq (t := 27) ?_) | (with_reducible refine stop_eql (t := 24) ?_) | (with_reducible refine stop_neq (t := 24) ?_) | (with_reducible refine stop_load (t := 36) ?_))
          (with_reducible refine ⟨?_⟩); (with_reducible refine at_any ?_ ?_); (focus go_simp); refine fun K0 hK => ld_v _ _ v' rfl rfl g6V.out (hK _ _ ?_)
          clear hK
          go_wp2_with (first | (with_reducible refine stop_load (t := 30) ?_) | (with_reducible refine stop_store (t := 30) ?_) | (with_reducible refine stop_load (t := 33) ?_) | (with_reducible refine stop_store (t := 33) ?_) | (with_reducible refine stop_load (t := 39) ?_) | (with_reducible refine stop_store (t := 39) ?_) | (with_reducible refine stop_load (t := 27) ?_) | (with_reducible refine stop_store (t := 27) ?_) | (with_reducible refine stop_load (t := 24) ?_) | (with_reducible refine stop_store (t := 24) ?_) | (with_reducible refine stop_build ?_) | (with_reducible refine stop_eql (t := 27) ?_) | (with_reducible refine stop_neq (t := 27) ?_) | (with_reducible refine stop_eql (t := 24) ?_) | (with_reducible refine stop_neq (t := 24) ?_) | (with_reducible refine stop_load (t := 36) ?_))
          (with_reducible refine ⟨?_⟩); (with_reducible refine at_any ?_ ?_); (focus go_simp); refine fun K0 hK => st_v _ _ B v' rfl rfl rfl VI1.out.ok V0.out.2 (by rw [List.size_toArray, Vt.len V0.out.1]) (fun w11 hd ho => hK _ _ ?_)
          clear hK
          replace V0 := Lib.hid hd
          have VN2 := Lib.hid (show VN w11 (B + 1) v' from ⟨VI1.out.ok, VN1.out.only ho (Nat.lt_succ_self B)⟩)
          replace BW := Lib.hid (ho.below w.heap.size (by rw [← HB.out]; exact Nat.le_refl _) w BW.out)
          clear hd ho
          go_wp2_with (first | (with_reducible refine stop_load (t := 30) ?_) | (with_reducible refine stop_store (t := 30) ?_) | (with_reducible refine stop_load (t := 33) ?_) | (with_reducible refine stop_store (t := 33) ?_) | (with_reducible refine stop_load (t := 39) ?_) | (with_reducible refine stop_store (t := 39) ?_) | (with_reducible refine stop_load (t := 27) ?_) | (with_reducible refine stop_store (t := 27) ?_) | (with_reducible refine stop_load (t := 24) ?_) | (with_reducible refine stop_store (t := 24) ?_) | (with_reducible refine stop_build ?_) | (with_reducible refine stop_eql (t := 27) ?_) | (with_reducible refine stop_neq (t := 27) ?_) | (with_reducible refine stop_eql (t := 24) ?_) | (with_reducible refine stop_neq (t := 24) ?_) | (with_reducible refine stop_load (t := 36) ?_))
          go_roundw
          case rel => exact ⟨k + 1, v', by omega, by go_num, V0, VN2, KP1, BW⟩
          case measure => simp [intOf]; omega
      · have HGE : Hid (v'.gen = v.gen) := Lib.hid (F.out.no (fun h => by have h3 := h.o; rw [show q7.ct.op = _ from HOP.out.symm] at h3; revert h3; decide))
        clear F
        obtain ⟨q0c, q21, q22, q55, q56⟩ := Q1.out.cells
        rw [← HOP.out] at q0c
        obtain ⟨r0, r5, r6, r7, r8, r9⟩ := g6R.out.cells
        obtain ⟨v4, v21, v22, v23, v40, v41⟩ := V0.out.cells
        obtain ⟨n4, n21, n22, n23, n40, n41⟩ := g6V.out.cells
        rw [EQ.out.2.1] at r9
        rw [EQ.out.2.2.1] at r8
        rw [EQ.out.2.2.2] at r5
        clear q21 q22 r6 r7 v21 v22 v23 v40 v41 n21 n22 n23 n40 n41
        go_wp2_with (first | (with_reducible refine stop_load (t := 30) ?_) | (with_reducible refine stop_store (t := 30) ?_) | (with_reducible refine stop_load (t := 33) ?_) | (with_reducible refine stop_store (t := 33) ?_) | (with_reducible refine stop_load (t := 39) ?_) | (with_reducible refine stop_store (t := 39) ?_) | (with_reducible refine stop_load (t := 27) ?_) | (with_reducible refine stop_store (t := 27) ?_) | (with_reducible refine stop_load (t := 24) ?_) | (with_reducible refine stop_store (t := 24) ?_) | (with_reducible refine stop_build ?_) | (with_reducible refine stop_eql (t := 27) ?_) | (with_reducible refine stop_neq (t := 27) ?_) | (with_reducible refine stop_eql (t := 24) ?_) | (with_reducible refine stop_neq (t := 24) ?_) | (with_reducible refine stop_eql (t := 37) ?_))
        (with_reducible refine ⟨?_⟩); (with_reducible refine at_any ?_ ?_); (focus go_simp); refine fun K0 hK => wp_eql_err _ _ _ rfl r.why 0 rfl rfl (hK _ _ ?_)
        clear hK
        rw [decide_eq_true HW.out]
        have hge : v'.gen = v.gen := HGE.out
        rw [hge] at r5 n4
        clear hge
        go_wp2_with (first | (with_reducible refine stop_load (t := 30) ?_) | (with_reducible refine stop_store (t := 30) ?_) | (with_reducible refine stop_load (t := 33) ?_) | (with_reducible refine stop_store (t := 33) ?_) | (with_reducible refine stop_load (t := 39) ?_) | (with_reducible refine stop_store (t := 39) ?_) | (with_reducible refine stop_load (t := 27) ?_) | (with_reducible refine stop_store (t := 27) ?_) | (with_reducible refine stop_load (t := 24) ?_) | (with_reducible refine stop_store (t := 24) ?_) | (with_reducible refine stop_build ?_) | (with_reducible refine stop_eql (t := 27) ?_) | (with_reducible refine stop_neq (t := 27) ?_) | (with_reducible refine stop_eql (t := 24) ?_) | (with_reducible refine stop_neq (t := 24) ?_) | (with_reducible refine stop_load (t := 36) ?_))
        (with_reducible refine ⟨?_⟩); (with_reducible refine at_any ?_ ?_); (focus go_simp); refine fun K0 hK => ld_rid _ _ r rfl rfl g6R.out (hK _ _ ?_)
        clear hK
        go_wp2_with (first | (with_reducible refine stop_load (t := 30) ?_) | (with_reducible refine stop_store (t := 30) ?_) | (with_reducible refine stop_load (t := 33) ?_) | (with_reducible refine stop_store (t := 33) ?_) | (with_reducible refine stop_load (t := 39) ?_) | (with_reducible refine stop_store (t := 39) ?_) | (with_reducible refine stop_load (t := 27) ?_) | (with_reducible refine stop_store (t := 27) ?_) | (with_reducible refine stop_load (t := 24) ?_) | (with_reducible refine stop_store (t := 24) ?_) | (with_reducible refine stop_build ?_) | (with_reducible refine stop_eql (t := 27) ?_) | (with_reducible refine stop_neq (t := 27) ?_) | (with_reducible refine stop_eql (t := 24) ?_) | (with_reducible refine stop_neq (t := 24) ?_) | (with_reducible refine stop_load (t := 36) ?_))
        (with_reducible refine ⟨?_⟩); (with_reducible refine at_any ?_ ?_); (focus go_simp); refine fun K0 hK => ld_qid _ _ q7 rfl rfl Q1.out (hK _ _ ?_)
        clear hK
        go_wp2_with (first | (with_reducible refine stop_load (t := 30) ?_) | (with_reducible refine stop_store (t := 30) ?_) | (with_reducible refine stop_load (t := 33) ?_) | (with_reducible refine stop_store (t := 33) ?_) | (with_reducible refine stop_load (t := 39) ?_) | (with_reducible refine stop_store (t := 39) ?_) | (with_reducible refine stop_load (t := 27) ?_) | (with_reducible refine stop_store (t := 27) ?_) | (with_reducible refine stop_load (t := 24) ?_) | (with_reducible refine stop_store (t := 24) ?_) | (with_reducible refine stop_build ?_) | (with_reducible refine stop_eql (t := 27) ?_) | (with_reducible refine stop_neq (t := 27) ?_) | (with_reducible refine stop_eql (t := 24) ?_) | (with_reducible refine stop_neq (t := 24) ?_) | (with_reducible refine stop_load (t := 36) ?_))
        (with_reducible refine ⟨?_⟩); (with_reducible refine at_any ?_ ?_); (focus go_simp); refine fun K0 hK => wp_neq_id _ _ _ rfl r.id q7.id RO.out.idN Q1.out.1.idN rfl rfl (hK _ _ ?_)
        clear hK
        rw [decide_eq_true (show r.id = q7.id from EQ.out.1)]
        simp only [Bool.not_true]
        go_wp2_with (first | (with_reducible refine stop_load (t := 30) ?_) | (with_reducible refine stop_store (t := 30) ?_) | (with_reducible refine stop_load (t := 33) ?_) | (with_reducible refine stop_store (t := 33) ?_) | (with_reducible refine stop_load (t := 39) ?_) | (with_reducible refine stop_store (t := 39) ?_) | (with_reducible refine stop_load (t := 27) ?_) | (with_reducible refine stop_store (t := 27) ?_) | (with_reducible refine stop_load (t := 24) ?_) | (with_reducible refine stop_store (t := 24) ?_) | (with_reducible refine stop_build ?_) | (with_reducible refine stop_eql (t := 27) ?_) | (with_reducible refine stop_neq (t := 27) ?_) | (with_reducible refine stop_eql (t := 24) ?_) | (with_reducible refine stop_neq (t := 24) ?_) | (with_reducible refine stop_load (t := 36) ?_))
        (with_reducible refine ⟨?_⟩); (with_reducible refine at_any ?_ ?_); (focus go_simp); refine fun K0 hK => ld_v _ _ v' rfl rfl g6V.out (hK _ _ ?_)
        clear hK
        go_wp2_with (first | (with_reducible refine stop_load (t := 30) ?_) | (with_reducible refine stop_store (t := 30) ?_) | (with_reducible refine stop_load (t := 33) ?_) | (with_reducible refine stop_store (t := 33) ?_) | (with_reducible refine stop_load (t := 39) ?_) | (with_reducible refine stop_store (t := 39) ?_) | (with_reducible refine stop_load (t := 27) ?_) | (with_reducible refine stop_store (t := 27) ?_) | (with_reducible refine stop_load (t := 24) ?_) | (with_reducible refine stop_store (t := 24) ?_) | (with_reducible refine stop_build ?_) | (with_reducible refine stop_eql (t := 27) ?_) | (with_reducible refine stop_neq (t := 27) ?_) | (with_reducible refine stop_eql (t := 24) ?_) | (with_reducible refine stop_neq (t := 24) ?_) | (with_reducible refine stop_load (t := 36) ?_))
        refine (none_any v' w8 VI1.out).mono ?_
        rintro e w9 ⟨rfl, xx⟩
        replace V0 := Lib.hid (V0.out.ext xx)
        replace g6V := Lib.hid (g6V.out.ext xx)
        replace VN1 := Lib.hid (VN1.out.ext xx)
        replace VI1 := Lib.hid (VI1.out.ext xx)
        replace BW := Lib.hid (Ex.trans BW.out xx)
        clear xx q0c q55 q56 r0 r5 r8 r9 v4 n4 Q1 g6R EQ gb0 gb1
        by_cases hnz : v'.ct = zeroVc
        case pos =>
          rw [decide_eq_true hnz]
          clear hnz
          go_wp2_with (first | (with_reducible refine stop_load (t := 30) ?_) | (with_reducible refine stop_store (t := 30) ?_) | (with_reducible refine stop_load (t := 33) ?_) | (with_reducible refine stop_store (t := 33) ?_) | (with_reducible refine stop_load (t := 39) ?_) | (with_reducible refine stop_store (t := 39) ?_) | (with_reducible refine stop_load (t := 27) ?_) | (with_reducible refine stop_store (t := 27) ?_) | (with_reducible refine stop_load (t := 24) ?_) | (with_reducible refine stop_store (t := 24) ?_) | (with_reducible refine stop_build ?_) | (with_reducible refine stop_eql (t := 27) ?_) | (with_reducible refine stop_neq (t := 27) ?_) | (with_reducible refine stop_eql (t := 24) ?_) | (with_reducible refine stop_neq (t := 24) ?_) | (with_reducible refine stop_load (t := 36) ?_))
          (first | ((with_reducible refine ⟨?_⟩); (with_reducible refine at_not ?_ ?_); (focus (go_simp; done)); go_wp2_with (first | (with_reducible refine stop_load (t := 30) ?_) | (with_reducible refine stop_store (t := 30) ?_) | (with_reducible refine stop_load (t := 33) ?_) | (with_reducible refine stop_store (t := 33) ?_) | (with_reducible refine stop_load (t := 39) ?_) | (with_reducible refine stop_store (t := 39) ?_) | (with_reducible refine stop_load (t := 27) ?_) | (with_reducible refine stop_store (t := 27) ?_) | (with_reducible refine stop_load (t := 24) ?_) | (with_reducible refine stop_store (t := 24) ?_) | (with_reducible refine stop_build ?_) | (with_reducible refine stop_eql (t := 27) ?_) | (with_reducible refine stop_neq (t := 27) ?_) | (with_reducible refine stop_eql (t := 24) ?_) | (with_reducible refine stop_neq (t := 24) ?_) | (with_reducible refine stop_load (t := 36) ?_))) | skip)
          (first | ((with_reducible refine ⟨?_⟩); (with_reducible refine at_not ?_ ?_); (focus (go_simp; done)); go_wp2_with (first | (with_reducible refine stop_load (t := 30) ?_) | (with_reducible refine stop_store (t := 30) ?_) | (with_reducible refine stop_load (t := 33) ?_) | (with_reducible refine stop_store (t := 33) ?_) | (with_reducible refine stop_load (t := 39) ?_) | (with_reducible refine stop_store (t := 39) ?_) | (with_reducible refine stop_load (t := 27) ?_) | (with_reducible refine stop_store (t := 27) ?_) | (with_reducible refine stop_load (t := 24) ?_) | (with_reducible refine stop_store (t := 24) ?_) | (with_reducible refine stop_build ?_) | (with_reducible refine stop_eql (t := 27) ?_) | (with_reducible refine stop_neq (t := 27) ?_) | (with_reducible refine stop_eql (t := 24) ?_) | (with_reducible refine stop_neq (t := 24) ?_) | (with_reducible refine stop_load (t := 36) ?_))) | skip)
          (with_reducible refine ⟨?_⟩); (with_reducible refine at_any ?_ ?_); (focus go_simp); refine fun K0 hK => ld_v _ _ v' rfl rfl g6V.out (hK _ _ ?_)
          clear hK
          go_wp2_with (first | (with_reducible refine stop_load (t := 30) ?_) | (with_reducible refine stop_store (t := 30) ?_) | (with_reducible refine stop_load (t := 33) ?_) | (with_reducible refine stop_store (t := 33) ?_) | (with_reducible refine stop_load (t := 39) ?_) | (with_reducible refine stop_store (t := 39) ?_) | (with_reducible refine stop_load (t := 27) ?_) | (with_reducible refine stop_store (t := 27) ?_) | (with_reducible refine stop_load (t := 24) ?_) | (with_reducible refine stop_store (t := 24) ?_) | (with_reducible refine stop_build ?_) | (with_reducible refine stop_eql (t := 27) ?_) | (with_reducible refine stop_neq (t := 27) ?_) | (with_reducible refine stop_eql (t := 24) ?_) | (with_reducible refine stop_neq (t := 24) ?_) | (with_reducible refine stop_load (t := 36) ?_))
          (with_reducible refine ⟨?_⟩); (with_reducible refine at_any ?_ ?_); (focus go_simp); refine fun K0 hK => st_v _ _ B v' rfl rfl rfl VI1.out.ok V0.out.2 (by rw [List.size_toArray, Vt.len V0.out.1]) (fun w11 hd ho => hK _ _ ?_)
          clear hK
          replace V0 := Lib.hid hd
          have VN2 := Lib.hid (show VN w11 (B + 1) v' from ⟨VI1.out.ok, VN1.out.only ho (Nat.lt_succ_self B)⟩)
          replace BW := Lib.hid (ho.below w.heap.size (by rw [← HB.out]; exact Nat.le_refl _) w BW.out)
          clear hd ho
          go_wp2_with (first | (with_reducible refine stop_load (t := 30) ?_) | (with_reducible refine stop_store (t := 30) ?_) | (with_reducible refine stop_load (t := 33) ?_) | (with_reducible refine stop_store (t := 33) ?_) | (with_reducible refine stop_load (t := 39) ?_) | (with_reducible refine stop_store (t := 39) ?_) | (with_reducible refine stop_load (t := 27) ?_) | (with_reducible refine stop_store (t := 27) ?_) | (with_reducible refine stop_load (t := 24) ?_) | (with_reducible refine stop_store (t := 24) ?_) | (with_reducible refine stop_build ?_) | (with_reducible refine stop_eql (t := 27) ?_) | (with_reducible refine stop_neq (t := 27) ?_) | (with_reducible refine stop_eql (t := 24) ?_) | (with_reducible refine stop_neq (t := 24) ?_) | (with_reducible refine stop_load (t := 36) ?_))
          go_roundw
          case rel => exact ⟨k + 1, v', by omega, by go_num, V0, VN2, KP1, BW⟩
          case measure => simp [intOf]; omega
        case neg =>
          have HRI : Hid (v'.ct.right = true) := Lib.hid (KP1.out.elim (fun h => absurd h hnz) (fun h => h.1))
          rw [decide_eq_false hnz]
          clear hnz
          go_wp2_with (first | (with_reducible refine stop_load (t := 30) ?_) | (with_reducible refine stop_store (t := 30) ?_) | (with_reducible refine stop_load (t := 33) ?_) | (with_reducible refine stop_store (t := 33) ?_) | (with_reducible refine stop_load (t := 39) ?_) | (with_reducible refine stop_store (t := 39) ?_) | (with_reducible refine stop_load (t := 27) ?_) | (with_reducible refine stop_store (t := 27) ?_) | (with_reducible refine stop_load (t := 24) ?_) | (with_reducible refine stop_store (t := 24) ?_) | (with_reducible refine stop_build ?_) | (with_reducible refine stop_eql (t := 27) ?_) | (with_reducible refine stop_neq (t := 27) ?_) | (with_reducible refine stop_eql (t := 24) ?_) | (with_reducible refine stop_neq (t := 24) ?_) | (with_reducible refine stop_load (t := 36) ?_))
          (with_reducible refine ⟨?_⟩); (with_reducible refine at_any ?_ ?_); (focus go_simp); refine fun K0 hK => ld_v _ _ v' rfl rfl g6V.out (hK _ _ ?_)
          clear hK
          go_wp2_with (first | (with_reducible refine stop_load (t := 30) ?_) | (with_reducible refine stop_store (t := 30) ?_) | (with_reducible refine stop_load (t := 33) ?_) | (with_reducible refine stop_store (t := 33) ?_) | (with_reducible refine stop_load (t := 39) ?_) | (with_reducible refine stop_store (t := 39) ?_) | (with_reducible refine stop_load (t := 27) ?_) | (with_reducible refine stop_store (t := 27) ?_) | (with_reducible refine stop_load (t := 24) ?_) | (with_reducible refine stop_store (t := 24) ?_) | (with_reducible refine stop_build ?_) | (with_reducible refine stop_eql (t := 27) ?_) | (with_reducible refine stop_neq (t := 27) ?_) | (with_reducible refine stop_eql (t := 24) ?_) | (with_reducible refine stop_neq (t := 24) ?_) | (with_reducible refine stop_load (t := 36) ?_))
          refine (rright_any v' w9 VI1.out).mono ?_
          rintro e w10 ⟨rfl, xx⟩
          rw [HRI.out]
          replace V0 := Lib.hid (V0.out.ext xx)
          replace g6V := Lib.hid (g6V.out.ext xx)
          replace VN1 := Lib.hid (VN1.out.ext xx)
          replace VI1 := Lib.hid (VI1.out.ext xx)
          replace BW := Lib.hid (Ex.trans BW.out xx)
          clear xx HRI
          go_wp2_with (first | (with_reducible refine stop_load (t := 30) ?_) | (with_reducible refine stop_store (t := 30) ?_) | (with_reducible refine stop_load (t := 33) ?_) | (with_reducible refine stop_store (t := 33) ?_) | (with_reducible refine stop_load (t := 39) ?_) | (with_reducible refine stop_store (t := 39) ?_) | (with_reducible refine stop_load (t := 27) ?_) | (with_reducible refine stop_store (t := 27) ?_) | (with_reducible refine stop_load (t := 24) ?_) | (with_reducible refine stop_store (t := 24) ?_) | (with_reducible refine stop_build ?_) | (with_reducible refine stop_eql (t := 27) ?_) | (with_reducible refine stop_neq (t := 27) ?_) | (with_reducible refine stop_eql (t := 24) ?_) | (with_reducible refine stop_neq (t := 24) ?_) | (with_reducible refine stop_load (t := 36) ?_))
          (with_reducible refine ⟨?_⟩); (with_reducible refine at_any ?_ ?_); (focus go_simp); refine fun K0 hK => ld_v _ _ v' rfl rfl g6V.out (hK _ _ ?_)
          clear hK
          go_wp2_with (first | (with_reducible refine stop_load (t := 30) ?_) | (with_reducible refine stop_store (t := 30) ?_) | (with_reducible refine stop_load (t := 33) ?_) | (with_reducible refine stop_store (t := 33) ?_) | (with_reducible refine stop_load (t := 39) ?_) | (with_reducible refine stop_store (t := 39) ?_) | (with_reducible refine stop_load (t := 27) ?_) | (with_reducible refine stop_store (t := 27) ?_) | (with_reducible refine stop_load (t := 24) ?_) | (with_reducible refine stop_store (t := 24) ?_) | (with_reducible refine stop_build ?_) | (with_reducible refine stop_eql (t := 27) ?_) | (with_reducible refine stop_neq (t := 27) ?_) | (with_reducible refine stop_eql (t := 24) ?_) | (with_reducible refine stop_neq (t := 24) ?_) | (with_reducible refine stop_load (t := 36) ?_))
          (with_reducible refine ⟨?_⟩); (with_reducible refine at_any ?_ ?_); (focus go_simp); refine fun K0 hK => st_v _ _ B v' rfl rfl rfl VI1.out.ok V0.out.2 (by rw [List.size_toArray, Vt.len V0.out.1]) (fun w11 hd ho => hK _ _ ?_)
          clear hK
          replace V0 := Lib.hid hd
          have VN2 := Lib.hid (show VN w11 (B + 1) v' from ⟨VI1.out.ok, VN1.out.only ho (Nat.lt_succ_self B)⟩)
          replace BW := Lib.hid (ho.below w.heap.size (by rw [← HB.out]; exact Nat.le_refl _) w BW.out)
          clear hd ho
          go_wp2_with (first | (with_reducible refine stop_load (t := 30) ?_) | (with_reducible refine stop_store (t := 30) ?_) | (with_reducible refine stop_load (t := 33) ?_) | (with_reducible refine stop_store (t := 33) ?_) | (with_reducible refine stop_load (t := 39) ?_) | (with_reducible refine stop_store (t := 39) ?_) | (with_reducible refine stop_load (t := 27) ?_) | (with_reducible refine stop_store (t := 27) ?_) | (with_reducible refine stop_load (t := 24) ?_) | (with_reducible refine stop_store (t := 24) ?_) | (with_reducible refine stop_build ?_) | (with_reducible refine stop_eql (t := 27) ?_) | (with_reducible refine stop_neq (t := 27) ?_) | (with_reducible refine stop_eql (t := 24) ?_) | (with_reducible refine stop_neq (t := 24) ?_) | (with_reducible refine stop_load (t := 36) ?_))
          go_roundw
          case rel => exact ⟨k + 1, v', by omega, by go_num, V0, VN2, KP1, BW⟩
          case measure => simp [intOf]; omega
    · skip
      by_cases hn2 : k < n
      case pos =>
        have q2 : ¬ (k : Int) < 60 := by omega
        have q1 : (k : Int) < (n : Int) := by omega
        go_wp2_with (first | (with_reducible refine stop_load (t := 30) ?_) | (with_reducible refine stop_store (t := 30) ?_) | (with_reducible refine stop_load (t := 33) ?_) | (with_reducible refine stop_store (t := 33) ?_) | (with_reducible refine stop_load (t := 39) ?_) | (with_reducible refine stop_store (t := 39) ?_) | (with_reducible refine stop_load (t := 27) ?_) | (with_reducible refine stop_store (t := 27) ?_) | (with_reducible refine stop_load (t := 24) ?_) | (with_reducible refine stop_store (t := 24) ?_) | (with_reducible refine stop_build ?_) | (with_reducible refine stop_eql (t := 27) ?_) | (with_reducible refine stop_neq (t := 27) ?_) | (with_reducible refine stop_eql (t := 24) ?_) | (with_reducible refine stop_neq (t := 24) ?_) | (with_reducible refine stop_load (t := 36) ?_))
        refine (known11 wr).mono ?_
        rintro e w3 ⟨rfl, xx⟩
        have BW3 := Lib.hid (Ex.trans BW.out xx)
        clear xx
        go_wp2_with fail
        go_ret
        exact ⟨rfl, BW3.out⟩
      have q1 : ¬ (k : Int) < (n : Int) := by omega
      go_wp2_with (first | (with_reducible refine stop_load (t := 30) ?_) | (with_reducible refine stop_store (t := 30) ?_) | (with_reducible refine stop_load (t := 33) ?_) | (with_reducible refine stop_store (t := 33) ?_) | (with_reducible refine stop_load (t := 39) ?_) | (with_reducible refine stop_store (t := 39) ?_) | (with_reducible refine stop_load (t := 27) ?_) | (with_reducible refine stop_store (t := 27) ?_) | (with_reducible refine stop_load (t := 24) ?_) | (with_reducible refine stop_store (t := 24) ?_) | (with_reducible refine stop_build ?_) | (with_reducible refine stop_eql (t := 27) ?_) | (with_reducible refine stop_neq (t := 27) ?_) | (with_reducible refine stop_eql (t := 24) ?_) | (with_reducible refine stop_neq (t := 24) ?_) | (with_reducible refine stop_load (t := 36) ?_))
      refine (known11 wr).mono ?_
      rintro e w3 ⟨rfl, xx⟩
      have BW3 := Lib.hid (Ex.trans BW.out xx)
      clear xx
      go_wp2_with fail
      go_ret
      exact ⟨rfl, BW3.out⟩
end Go.Proofs.Ytedljddjmojeeaa
