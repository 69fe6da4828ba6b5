/- TableNumbers walked -/
import Derived.Test.YtedljddjmojeeaaTt
namespace Go.Proofs.Ytedljddjmojeeaa
open Go.RowKit
def zeroKv : Kv := ⟨0, 0, 0, 0, 0, 0, 0, nilB⟩
def zeroAt : At := ⟨0, zeroKv, none, 0, [], zeroVt⟩
theorem Try.infoAt : (Try.prog.info? 51).map (fun i => (i.zero, i.size, i.bytes)) = some (some zeroAt.V, 52, 208) := by kernel_rfl
theorem Try.slKVS : Try.prog.underlying 49 = some (.slice (Try.prog.elem 49)) := by kernel_rfl
theorem Try.szKVS (w : World) : (sizeOf (Try.prog.elem 49)).run Try.prog w = .ok 8 w := by kernel_rfl
theorem sliced_z (g n cap sz : Nat) : sliced (some ⟨g, 0, none⟩) 0 n cap sz = .slice (some ⟨g, 0, none⟩) n cap := by
  unfold sliced
  rw [Option.map_some, Nat.zero_mul, Addr.add_lit, Nat.zero_add, Nat.sub_zero, Nat.sub_zero]
  split <;> rfl
theorem kvflat_at : ∀ (l : List Kv) (i j : Nat) (x : Kv), l[i]? = some x → j < 8 → (l.flatMap Kv.C)[i * 8 + j]? = x.C[j]?
  | [], _, _, _, h, _ => by simp at h
  | y :: r, 0, j, x, h, hj => by
    obtain rfl : y = x := by simpa using h
    rw [List.flatMap_cons, List.getElem?_append_left (by show _ < 8; omega)]
    congr 1; omega
  | y :: r, i + 1, j, x, h, hj => by
    rw [List.flatMap_cons, List.getElem?_append_right (by show 8 ≤ _; omega), show y.C.length = 8 from rfl, show (i + 1) * 8 + j - 8 = i * 8 + j by omega]
    exact kvflat_at r i j x (by simpa using h) hj
def kvz (id how : Int) : Kv := ⟨id, 0, 0, 0, 0, how, 0, nilB⟩
theorem built_at0 (kd a b c d e f g : Int) (la : Option Addr) (n lc : Nat) : Try.prog.built 51 [(0, .int .i64 kd), (1, (Kv.mk a b c d e f g nilB).V), (2, .slice la n lc)] = some (Value.int .i64 kd :: ((Kv.mk a b c d e f g nilB).C ++ (.slice la n lc :: zeroVt.C))).toArray := by kernel_rfl
theorem built_at (kd a b c d e f g : Int) (la : Option Addr) (n lc : Nat) (L : List Kv) (hL : L.length = n) : Try.prog.built 51 [(0, .int .i64 kd), (1, (Kv.mk a b c d e f g nilB).V), (2, .slice la n lc)] = some (At.mk kd (Kv.mk a b c d e f g nilB) la lc L zeroVt).C.toArray := by
  subst hL
  exact built_at0 kd a b c d e f g la L.length lc
set_option maxRecDepth 100000 in
theorem wp_bsat {o : Oper} {a : Act} {w : World} {K : Act → World → Prop} {Q : Exit → Act → World → Prop} (y : Operand) (x : At) (hx : x.raw = zeroVt) (ho : o.op = .buildSlice 46 1 #[(0, y)]) (hy : a.eval y = x.V)
    (hk : K (a.put o.dst (.slice (some ⟨w.heap.size, 0, none⟩) 1 1)) (w.alloc (.cells x.C.toArray 51))) : o.wp Try.prog a w K Q := by
  obtain ⟨kd, ⟨v0, v1, v2, v3, v4, v5, v6, ⟨va, vc, vl⟩⟩, la, lc, l, raw⟩ := x
  obtain rfl : raw = zeroVt := hx
  have hy : a.eval y = .agg #[.int .i64 kd, .int .i64 v0, .int .i64 v1, .int .i64 v2, .int .i64 v3, .int .i64 v4, .int .i64 v5, .int .u64 v6, .slice va vl.length vc, .slice la l.length lc, .int .u8 0, .int .u8 0, .int .u8 0, .int .u8 0, .int .u64 0, .int .u8 0, .int .u8 0, .int .u8 0, .int .u8 0, .int .u8 0, .int .u8 0, .int .u8 0, .int .u8 0, .int .u8 0, .int .u8 0, .int .u8 0, .int .u8 0, .int .u8 0, .int .u8 0, .int .u8 0, .int .u8 0, .slice none 0 0, .int .i64 0, .int .i64 0, .int .u8 0, .int .u8 0, .int .u8 0, .int .u8 0, .int .u8 0, .int .u8 0, .int .u8 0, .int .u8 0, .int .u8 0, .int .u8 0, .int .u8 0, .int .u8 0, .int .u8 0, .int .u8 0, .int .u8 0, .int .u8 0, .bool false, .bool false] := hy
  unfold Oper.wp
  obtain ⟨ev, hev⟩ : ∃ ev, ev = a.eval := ⟨_, rfl⟩
  rw [← hev] at hy ⊢
  clear hev
  unfold execOp
  simp only [ho]
  simp [hy, go_sem]
  go_simp
  exact hk
theorem At.C_one (x : At) : ∀ u ∈ x.C, u.oneCell' = true := by
  have := x.ones
  rw [List.all_toArray] at this
  exact List.all_eq_true.1 this
theorem atflat_at : ∀ (l : List At) (_ : ∀ x, x ∈ l → x.raw.Ok) (i j : Nat) (x : At), l[i]? = some x → j < 52 → (l.flatMap At.C)[i * 52 + j]? = x.C[j]?
  | [], _, _, _, _, h, _ => by simp at h
  | y :: r, H, 0, j, x, h, hj => by
    obtain rfl : y = x := by simpa using h
    rw [List.flatMap_cons, List.getElem?_append_left (by rw [At.len (H y (List.mem_cons_self ..))]; omega)]
    congr 1; omega
  | y :: r, H, i + 1, j, x, h, hj => by
    have hy := At.len (H y (List.mem_cons_self ..))
    rw [List.flatMap_cons, List.getElem?_append_right (by omega), hy, show (i + 1) * 52 + j - 52 = i * 52 + j by omega]
    exact atflat_at r (fun z hz => H z (List.mem_cons_of_mem _ hz)) i j x (by simpa using h) hj
/-- an ask that was made -/
structure AOk (w : World) (x : At) : Prop where
  raw : x.raw = zeroVt
  kind : i64 x.kind
  v : ∀ w', x.v.In w'
  ls : ∀ y, y ∈ x.l → ∀ w', y.In w'
  len : x.l.length ≤ x.lc
  lc : x.lc = 5
  blk : ∃ (g : Nat) (C : List Value), x.la = some ⟨g, 0, none⟩ ∧ Bk w g 48 C.toArray ∧ ∀ (i : Nat) (y : Kv), x.l[i]? = some y → ∀ (j : Nat) (u : Value), y.C[j]? = some u → C[i * 8 + j]? = some u
theorem AOk.kt {S : List Nat} {B : Nat} {w w' : World} {x : At} (h : AOk w x) (k : Kt S B w w') (hs : 48 ∉ S) : AOk w' x := ⟨h.raw, h.kind, h.v, h.ls, h.len, h.lc, by
  obtain ⟨g, C, h1, h2, h3⟩ := h.blk
  exact ⟨g, C, h1, k.bk h2 hs, h3⟩⟩
theorem AOk.ext {w w' : World} {x : At} (h : AOk w x) (k : Ex w w') : AOk w' x := h.kt (S := []) (k.kt (Nat.zero_le w.heap.size |> fun _ => Nat.le_refl _)) (by simp)
theorem AOk.inn {w : World} {x : At} (h : AOk w x) : x.In w := by
  obtain ⟨g, C, h1, h2, h3⟩ := h.blk
  exact ⟨h.kind, h.v w, ⟨h.len, (fun e => by rw [h1] at e; cases e), fun i y hy => h.ls y (List.mem_of_getElem? hy) w, fun _ => ⟨g, 0, h1, h2.lt, fun i y hy j u hu => by
    rw [h2.cell, Nat.zero_add, List.getElem?_toArray]; exact h3 i y hy j u hu⟩⟩, by have := h.len; have := h.lc; omega, by rw [h.raw]; exact zeroVt_in _⟩
structure ATRow (w : World) (B : Nat) (v : Value) (l : List At) : Prop where
  row : w.ownsRow B 51 52 v l.length (l.flatMap At.C)
  all : ∀ x, x ∈ l → AOk w x
theorem ATRow.ext {w w' : World} {B : Nat} {v : Value} {l : List At} (h : ATRow w B v l) (k : Ex w w') : ATRow w' B v l := ⟨k.row h.row, fun x hx => (h.all x hx).ext k⟩
theorem ATRow.inn {w : World} {B : Nat} {v : Value} {l : List At} (h : ATRow w B v l) : ∃ ad cap, v = .slice ad l.length cap ∧ Atp.In ad cap l w := by
  have hraw : ∀ x, x ∈ l → x.raw.Ok := fun x hx => by rw [(h.all x hx).raw]; exact zeroVt_ok
  obtain ⟨ad, cap, e, hn, hc, hm, hr⟩ := own_rd h.row
  refine ⟨ad, cap, e, ⟨hc, hn, fun i x hx => (h.all x (List.mem_of_getElem? hx)).inn, fun h0 => ?_⟩⟩
  obtain ⟨a, o, e2, hl, hcell⟩ := hr.read h0
  refine ⟨a, o, e2, hl, fun i x hx j u hu => ?_⟩
  have hj : j < 52 := by have := (List.getElem?_eq_some_iff.1 hu).1; rw [At.len (hraw x (List.mem_of_getElem? hx))] at this; exact this
  have h3 := atflat_at l hraw i j x hx hj
  rw [Nat.add_assoc]
  exact hcell _ _ (h3.trans hu)
theorem ATRow.app {w w2 : World} {B : Nat} {v v' : Value} {l : List At} {x : At} (h : ATRow w B v l) (k : Kt [51] B w w2) (hr : w2.ownsRow B 51 52 v' (l.length + 1) (l.flatMap At.C ++ x.C)) (hx : AOk w x) : ATRow w2 B v' (l ++ [x]) :=
  ⟨by rw [List.length_append, List.flatMap_append]; simpa using hr, fun y hy => by
    rcases List.mem_append.1 hy with hy | hy
    · exact (h.all y hy).kt k (by decide)
    · rw [List.mem_singleton.1 hy]; exact hx.kt k (by decide)⟩
theorem kv_in {a b c d e f g : Int} (ha : i64 a) (hd : i64 d) (he : i64 e) (hf : i64 f) (hg : 0 ≤ g ∧ g < 18446744073709551616) (hb : b = 0) (hc : c = 0) (w : World) : (Kv.mk a b c d e f g nilB).In w := by
  subst hb; subst hc
  exact ⟨ha, (by unfold i64; omega : i64 (0 : Int)), (by unfold i64; omega : i64 (0 : Int)), hd, he, hf, hg.1, hg.2, nilB_in _ _, Nat.zero_le _⟩
set_option maxHeartbeats 4000000 in
set_option maxRecDepth 100000 in
theorem numbers12 (w : World) : Calls Try.prog 5 #[] w fun e w' => e = .returned (.bool true) ∧ Ex w w' := by
  go_enter Try.func5, Try.ntmps5
  go_wp2_with (first | (with_reducible refine stop_bs (t := 49) ?_) | (with_reducible refine stop_bs (t := 46) ?_) | (with_reducible refine stop_app ?_) | (with_reducible refine stop_build (t := 51) ?_) | (with_reducible refine stop_slice ?_))
  go_loopw [1, 2] (fun v i wr => ∃ (k : Nat) (l : List At), k ≤ 48 ∧ i = .int .i64 k ∧ Hid (ATRow wr w.heap.size v l ∧ l.length = k) ∧ Hid (Ex w wr)) (fun _ i _ => 48 - (intOf i).toNat)
  case atStart => exact ⟨0, [], by omega, rfl, Lib.hid ⟨⟨World.ownsRow_nil _ _ _ _, fun x hx => (by cases hx)⟩, rfl⟩, Lib.hid (Ex.refl _)⟩
  case round =>
    obtain ⟨k, l, hk, rfl, VR, BX⟩ := hrel
    by_cases hlt : k < 48
    · have q0 : (0 : Int) ≤ (k : Int) := by omega
      have q1 : (k : Int) < 48 := by omega
      obtain ⟨r, hr⟩ : ∃ r : Nat, r = k % 6 := ⟨_, rfl⟩
      have tm6 : (k : Int).tmod 6 = (r : Int) := by rw [Int.tmod_eq_emod_of_nonneg q0, hr]; omega
      have td2 : (k : Int).tdiv 2 = ((k / 2 : Nat) : Int) := by rw [Int.tdiv_eq_ediv_of_nonneg q0]; omega
      have td4 : (k : Int).tdiv 4 = ((k / 4 : Nat) : Int) := by rw [Int.tdiv_eq_ediv_of_nonneg q0]; omega
      have hr5 : r ≤ 5 := by omega
      have HR := Lib.hid hr5
      clear hr
      obtain ⟨a2, ha2⟩ : ∃ a : Nat, a = k / 2 := ⟨_, rfl⟩
      obtain ⟨a4, ha4⟩ : ∃ a : Nat, a = k / 4 := ⟨_, rfl⟩
      rw [← ha2] at td2
      rw [← ha4] at td4
      have hb2 : a2 ≤ 48 := by omega
      have hb4 : a4 ≤ 48 := by omega
      clear ha2 ha4
      go_wp2_with (first | (with_reducible refine stop_bs (t := 49) ?_) | (with_reducible refine stop_bs (t := 46) ?_) | (with_reducible refine stop_app ?_) | (with_reducible refine stop_build (t := 51) ?_) | (with_reducible refine stop_slice ?_))
      (with_reducible refine ⟨?_⟩)
      go_wp2_with (first | (with_reducible refine stop_bs (t := 46) ?_) | (with_reducible refine stop_app ?_) | (with_reducible refine stop_build (t := 51) ?_) | (with_reducible refine stop_slice ?_))
      (with_reducible refine ⟨?_⟩)
      change wpList _ _ _ _ _ (wr.alloc (.cells (List.flatMap Kv.C [kvz (k : Int) 0, kvz (a2 : Int) 0, kvz (a4 : Int) 3, kvz 0 0, kvz 0 0]).toArray 48))
      obtain ⟨L, hL⟩ : ∃ L : List Kv, L = [kvz (k : Int) 0, kvz (a2 : Int) 0, kvz (a4 : Int) 3, kvz 0 0, kvz 0 0] := ⟨_, rfl⟩
      have NB : Hid (Bk (wr.alloc (.cells (List.flatMap Kv.C [kvz (k : Int) 0, kvz (a2 : Int) 0, kvz (a4 : Int) 3, kvz 0 0, kvz 0 0]).toArray 48)) wr.heap.size 48 (L.flatMap Kv.C).toArray) := Lib.hid (by rw [hL]; exact Bk.new rfl _ _)
      have xa : Ex wr (wr.alloc (.cells (List.flatMap Kv.C [kvz (k : Int) 0, kvz (a2 : Int) 0, kvz (a4 : Int) 3, kvz 0 0, kvz 0 0]).toArray 48)) := Ex.alloc _ _
      have HLI : Hid (∀ y, y ∈ L → ∀ w9, y.In w9) := Lib.hid (by
        intro y hy w9
        rw [hL] at hy
        simp only [List.mem_cons, List.not_mem_nil, or_false] at hy
        have z0 : i64 0 := by unfold i64; omega
        rcases hy with rfl | rfl | rfl | rfl | rfl
        · exact kv_in (by unfold i64; omega) z0 z0 z0 ⟨by omega, by omega⟩ rfl rfl w9
        · exact kv_in (by unfold i64; omega) z0 z0 z0 ⟨by omega, by omega⟩ rfl rfl w9
        · exact kv_in (by unfold i64; omega) z0 z0 (by unfold i64; omega) ⟨by omega, by omega⟩ rfl rfl w9
        · exact kv_in z0 z0 z0 z0 ⟨by omega, by omega⟩ rfl rfl w9
        · exact kv_in z0 z0 z0 z0 ⟨by omega, by omega⟩ rfl rfl w9)
      have HLL : Hid (L.length = 5) := Lib.hid (by rw [hL]; rfl)
      generalize hw4 : (wr.alloc (.cells (List.flatMap Kv.C [kvz (k : Int) 0, kvz (a2 : Int) 0, kvz (a4 : Int) 3, kvz 0 0, kvz 0 0]).toArray 48)) = w4 at *
      obtain ⟨g, hg⟩ : ∃ g, g = wr.heap.size := ⟨_, rfl⟩
      rw [← hg] at NB ⊢
      replace VR := Lib.hid (And.intro (VR.out.1.ext xa) VR.out.2)
      replace BX := Lib.hid (Ex.trans BX.out xa)
      clear hw4 hg xa hL
      (with_reducible refine at_any ?_ ?_); (focus go_simp); refine fun K0 hK => wp_sl_h 49 _ _ rfl Try.slKVS 8 Try.szKVS _ 5 5 r rfl rfl HR.out (hK _ _ ?_)
      clear hK
      rw [sliced_z]
      go_wp2_with (first | (with_reducible refine stop_bs (t := 49) ?_) | (with_reducible refine stop_bs (t := 46) ?_) | (with_reducible refine stop_app ?_) | (with_reducible refine stop_build (t := 51) ?_) | (with_reducible refine stop_slice ?_))
      (with_reducible refine ⟨?_⟩); (with_reducible refine at_any ?_ ?_); (focus go_simp); refine fun K0 hK => wp_build _ _ rfl _ (built_at (r : Int) ((k : Int) * 3) 0 0 (k : Int) (k : Int) (k : Int) (k : Int) (some ⟨g, 0, none⟩) r 5 (L.take r) (by rw [List.length_take, HLL.out]; have := HR.out; omega)) (hK _ _ ?_)
      clear hK
      obtain ⟨X, hX⟩ : ∃ X : At, X = At.mk (r : Int) (Kv.mk ((k : Int) * 3) 0 0 (k : Int) (k : Int) (k : Int) (k : Int) nilB) (some ⟨g, 0, none⟩) 5 (L.take r) zeroVt := ⟨_, rfl⟩
      rw [← hX]
      have HXO : Hid (AOk w4 X) := Lib.hid (by
        rw [hX]
        have z0 : i64 0 := by unfold i64; omega
        refine ⟨rfl, (show i64 (r : Int) from by unfold i64; omega), fun w9 => kv_in (by unfold i64; omega) (by unfold i64; omega) (by unfold i64; omega) (by unfold i64; omega) ⟨by omega, by omega⟩ rfl rfl w9, fun y hy w9 => HLI.out y (List.mem_of_mem_take hy) w9, (by show (L.take r).length ≤ 5; rw [List.length_take]; omega), rfl, g, L.flatMap Kv.C, rfl, NB.out, fun i y hy j u hu => ?_⟩
        have hj : j < 8 := (List.getElem?_eq_some_iff.1 hu).1
        have hy2 : L[i]? = some y := by
          have hy : (L.take r)[i]? = some y := hy
          rw [List.getElem?_take] at hy
          split at hy
          · exact hy
          · cases hy
        rw [kvflat_at L i j y hy2 hj]; exact hu)
      have HXR : Hid (X.raw = zeroVt) := Lib.hid (by rw [hX])
      clear hX NB HLI HLL
      go_wp2_with (first | (with_reducible refine stop_bs (t := 49) ?_) | (with_reducible refine stop_bs (t := 46) ?_) | (with_reducible refine stop_app ?_) | (with_reducible refine stop_build (t := 51) ?_) | (with_reducible refine stop_slice ?_))
      (with_reducible refine ⟨?_⟩); (with_reducible refine at_any ?_ ?_); (focus go_simp); refine fun K0 hK => wp_bsat _ X HXR.out rfl rfl (hK _ _ ?_)
      clear hK
      have xa := Ex.alloc w4 (.cells X.C.toArray 51)
      have NB := Lib.hid (Bk.new (g := w4.heap.size) (w := w4) rfl 51 X.C.toArray)
      replace HXO := Lib.hid (HXO.out.ext xa)
      replace VR := Lib.hid (And.intro (VR.out.1.ext xa) VR.out.2)
      replace BX := Lib.hid (Ex.trans BX.out xa)
      generalize hw5 : w4.alloc (.cells X.C.toArray 51) = w5 at *
      obtain ⟨g2, hg⟩ : ∃ g, g = w4.heap.size := ⟨_, rfl⟩
      rw [← hg] at NB ⊢
      clear hw5 hg xa
      have MR := Lib.hid (Many.rd (n := 1) (sz := 52) ⟨g2, rfl, NB.out⟩ (At.len (by rw [HXR.out]; exact zeroVt_ok)))
      go_wp2_with (first | (with_reducible refine stop_bs (t := 49) ?_) | (with_reducible refine stop_bs (t := 46) ?_) | (with_reducible refine stop_app ?_) | (with_reducible refine stop_build (t := 51) ?_) | (with_reducible refine stop_slice ?_))
      obtain ⟨adx, ex, nx, rx⟩ := MR.out
      cases ex
      have RX := Lib.hid rx
      clear rx nx MR
      (with_reducible refine ⟨?_⟩); (with_reducible refine at_any ?_ ?_); (focus go_simp); refine fun K0 hK => wp_rd _ _ 46 51 zeroAt.V 52 208 rfl Try.underlying46 Try.infoAt rfl (by decide) w.heap.size l.length _ _ rfl VR.out.1.row BX.out.sz' _ 1 1 _ rfl RX.out (Nat.le_refl _) (fun h => by cases h) (At.C_one X) (by have := VR.out.2; omega) (by have := VR.out.2; omega) (fun v5 w6 r1 r2 => hK _ _ ?_)
      clear hK
      replace BX := Lib.hid (show Ex w w6 from Below.trans (show Below w.heap.size w _ from BX.out) r2.below)
      have VR2 : Hid (ATRow w6 w.heap.size v5 (l ++ [X]) ∧ (l ++ [X]).length = k + 1) := Lib.hid ⟨VR.out.1.app r2 r1 HXO.out, by rw [List.length_append, VR.out.2]; rfl⟩
      clear r1 r2
      go_wp2_with (first | (with_reducible refine stop_bs (t := 49) ?_) | (with_reducible refine stop_bs (t := 46) ?_) | (with_reducible refine stop_app ?_) | (with_reducible refine stop_build (t := 51) ?_) | (with_reducible refine stop_slice ?_))
      (first | (refine ⟨?_, ?measure⟩; (repeat apply Exists.intro); refine ⟨?rel, rfl⟩) | refine ⟨?rel, ?measure⟩)
      case rel => exact ⟨k + 1, l ++ [X], by omega, by go_num, VR2, BX⟩
      case measure => simp [intOf]; omega
    · obtain rfl : k = 48 := by omega
      obtain ⟨ad, cap, hv, hin⟩ := VR.out.1.inn
      have HIN := Lib.hid hin
      have HL48 := Lib.hid VR.out.2
      clear hin
      go_wp2_with (first | (with_reducible refine stop_bs (t := 49) ?_) | (with_reducible refine stop_bs (t := 46) ?_) | (with_reducible refine stop_app ?_) | (with_reducible refine stop_build (t := 51) ?_) | (with_reducible refine stop_slice ?_))
      rw [hv]
      clear hv VR
      have CP := play12 ad cap l (by rw [HL48.out]; decide) wr HIN.out
      refine CP.mono ?_
      rintro e w1 ⟨rfl, x1⟩
      replace BX := Lib.hid (Ex.trans BX.out x1)
      clear CP x1
      go_wp2_with (first | (with_reducible refine stop_bs (t := 49) ?_) | (with_reducible refine stop_bs (t := 46) ?_) | (with_reducible refine stop_app ?_) | (with_reducible refine stop_build (t := 51) ?_) | (with_reducible refine stop_slice ?_))
      refine (known12 w1).mono ?_
      rintro e w2 ⟨rfl, x2⟩
      replace BX := Lib.hid (Ex.trans BX.out x2)
      clear x2
      go_wp2_with fail
      go_ret
      exact ⟨rfl, BX.out⟩
end Go.Proofs.Ytedljddjmojeeaa
