/- Sg, Sm -/
import Derived.Test.YtmjfnpmnhehnkaaXat
import Derived.WideKeyPair
import Derived.WideKeyElems
import Derived.ChangeMaps3
namespace Go.Proofs.Ytmjfnpmnhehnkaa
open Go.RowKit
def stP (p : Nat → Pa) (D : Nat → Option Nat) : List Value := (List.range 16).flatMap fun i => partC (p i) (D i)
theorem Try.sizeSP : (Try.prog.info? 113).map (·.size) = some 64 := by kernel_rfl
theorem extract_part (p : Nat → Pa) (D : Nat → Option Nat) {k : Nat} (hk : k < 16) : (stP p D).toArray.extract (k * 4) (k * 4 + 4) = (partC (p k) (D k)).toArray := by
  apply Array.ext'
  simp only [List.extract_toArray, List.extract_eq_take_drop]
  have e : k * 4 + 4 - k * 4 = 4 := by omega
  rw [e]
  apply List.ext_getElem?
  intro j
  rcases Nat.lt_or_ge j 4 with h | h
  · rw [List.getElem?_take, if_pos h, List.getElem?_drop]
    exact range_part p D 16 k j hk h
  rw [List.getElem?_eq_none (by rw [List.length_take]; omega), List.getElem?_eq_none (by show 4 ≤ j; exact h)]
section
variable {o : Oper} {a : Act} {w : World} {K : Act → World → Prop} {Q : Exit → Act → World → Prop}
theorem ld_sps {M : Nat} {m n : Int} {p : Nat → Pa} {D : Nat → Option Nat} (x : Operand) (ho : o.op = .load 113 x) (ha : a.eval x = .pointer (some ⟨M, 2, none⟩)) (h : Bk w M 115 (stC m n p D).toArray) (hk : K (a.put o.dst (.agg (stP p D).toArray)) w) : o.wp Try.prog a w K Q := by
  obtain ⟨dd, hd⟩ : ∃ d, Try.prog.underlying 113 = some d ∧ d.isRow = true := ⟨_, Try.underlying113, rfl⟩
  exact wp_ldp (C := stC m n p D) (stP p D) x M 2 dd ho ha h (by show (stP p D).take (stP p D).length = stP p D; exact List.take_length) hd.1 hd.2 (by rw [Try.sizeSP]; rfl) hk
theorem wp_ixs (x y : Operand) (p : Nat → Pa) (D : Nat → Option Nat) (k : Nat) (hk : k < 16) (ho : o.op = .index 113 x y) (hx : a.eval x = .agg (stP p D).toArray) (hy : a.eval y = .int .i64 k) (h : K (a.put o.dst (.agg (partC (p k) (D k)).toArray)) w) : o.wp Try.prog a w K Q := by
  obtain ⟨i, hi, hs⟩ := Option.map_eq_some_iff.1 Try.sizePart
  have q0 : (k : Int) < 16 := by omega
  have hx3 : List.take 4 (List.drop (k * 4) (stP p D)) = partC (p k) (D k) := by
    have h2 := congrArg Array.toList (extract_part p D hk)
    simp only [List.extract_toArray, List.extract_eq_take_drop] at h2
    rw [show k * 4 + 4 - k * 4 = 4 by omega] at h2
    exact h2
  have key : (Instr.index 113 (.agg (stP p D).toArray) (.int .i64 k)).run Try.prog w = .ok (.agg (partC (p k) (D k)).toArray) w := by
    simp [Instr.index, asIntOf, run_underlying Try.underlying113, run_underlying Try.underlying112, sizeOf, typeInfo, hi, hs, part, isAgg, q0]
    rw [if_pos hk, hx3]
  unfold Oper.wp
  simp [execOp, ho, hx, hy, key, Result.andThen]
  exact h
end
/-- the shards that are lent, of the first k -/
def lentL (p : Nat → Pa) (k : Nat) : List Nat := (List.range k).filter fun i => (p i).role = 2
theorem lentL_succ (p : Nat → Pa) (k : Nat) : lentL p (k + 1) = if (p k).role = 2 then lentL p k ++ [k] else lentL p k := by
  unfold lentL
  rw [List.range_succ, List.filter_append]
  split
  · rename_i h; simp [h]
  rename_i h; simp [h]
theorem lentL_len (p : Nat → Pa) (k : Nat) : (lentL p k).length ≤ k := by
  unfold lentL
  exact Nat.le_trans (List.length_filter_le _ _) (by rw [List.length_range]; exact Nat.le_refl k)
def intC (i : Nat) : List Value := [.int .i64 (i : Int)]
def LentPost (L : List Nat) (w : World) (e : Ending) (w' : World) : Prop := ∃ v, e = .returned v ∧ w'.ownsRow w.heap.size 3 1 v L.length (L.flatMap intC) ∧ Ex w w'
set_option maxHeartbeats 8000000 in
set_option maxRecDepth 100000 in
theorem lent_any (B M : Nat) (m n : Int) (p : Nat → Pa) (D : Nat → Nat) (r : Nat → Value) (v : Nat → List Vt) (w : World) (h : SS w B M m n p D r v) : Calls Try.prog 29 #[.pointer (some ⟨M, 0, none⟩)] w (LentPost (lentL p 16) w) := by
  have HS := Hi h
  clear h
  go_enter Try.func29, Try.ntmps29
  go_wp2_with (first | (with_reducible refine stop_ix ?_) | ((with_reducible refine so4 [112, 1000 + 112, 113] ?_ ?_); (focus rfl)) | (with_reducible refine stop_app ?_) | (with_reducible refine stop_bs ?_))
  refine at9 (by go_simp) fun K0 hK => ld_sps _ rfl rfl HS.out.blk (hK _ _ ?_)
  clear hK
  go_wp2_with (first | (with_reducible refine stop_ix ?_) | ((with_reducible refine so4 [112, 1000 + 112, 113] ?_ ?_); (focus rfl)) | (with_reducible refine stop_app ?_) | (with_reducible refine stop_bs ?_))
  go_loopw [3, 10] (fun v9 i wr => ∃ k : Nat, k ≤ 16 ∧ i = .int .i64 k ∧ Hid (wr.ownsRow w.heap.size 3 1 v9 (lentL p k).length ((lentL p k).flatMap intC)) ∧ Hid (Ex w wr)) (fun _ i _ => 16 - (intOf i).toNat)
  case atStart => exact ⟨0, by omega, rfl, Hi (World.ownsRow_nil _ _ _ _), Hi (Ex.refl _)⟩
  obtain ⟨k, hk, rfl, RW, BW⟩ := hrel
  by_cases hlt : k < 16
  rotate_left
  · obtain rfl : k = 16 := by omega
    go_wp2_with fail
    go_ret
    exact ⟨_, rfl, RW.out, BW.out⟩
  have q0 : (0 : Int) ≤ (k : Int) := by omega
  have q1 : (k : Int) < 16 := by omega
  go_wp2_with (first | (with_reducible refine stop_ix ?_) | ((with_reducible refine so4 [112, 1000 + 112, 113] ?_ ?_); (focus rfl)) | (with_reducible refine stop_app ?_) | (with_reducible refine stop_bs ?_))
  refine at9 (by go_simp) fun K0 hK => wp_ixs _ _ p (fun i => some (D i)) k hlt rfl rfl rfl (hK _ _ ?_)
  clear hK
  go_wp2_with (first | (with_reducible refine stop_ix ?_) | ((with_reducible refine so4 [112, 1000 + 112, 113] ?_ ?_); (focus rfl)) | (with_reducible refine stop_app ?_) | (with_reducible refine stop_bs ?_))
  refine at9 (by go_simp) fun K0 hK => st_pb _ _ wr.heap.size (p k) (some (D k)) rfl rfl rfl (Bk.new rfl _ _) (by rfl) (fun w3 hd ho => hK _ _ ?_)
  clear hK
  have x3 : Ex wr w3 := ho.below wr.heap.size (Nat.le_refl _) wr (Ex.alloc wr _)
  obtain ⟨g, hg⟩ : ∃ g, g = wr.heap.size := ⟨_, rfl⟩
  rw [← hg] at hd ⊢
  have c0 := hd.cells.1
  replace RW := Hi (x3.row RW.out)
  replace BW := Hi (Ex.trans BW.out x3)
  clear hd ho hg x3
  have HLS := Hi (lentL_succ p k)
  have hll := lentL_len p k
  obtain ⟨rl, hrl⟩ : ∃ x, x = (p k).role := ⟨_, rfl⟩
  rw [← hrl] at c0 HLS
  clear hrl
  by_cases h2 : rl = 2
  rotate_left
  · rw [if_neg h2] at HLS
    go_wp2_with fail
    go_roundw
    case rel => exact ⟨k + 1, by omega, by go_num, Hi (by rw [HLS.out]; exact RW.out), BW⟩
    case measure => simp [intOf]; omega
  subst h2
  rw [if_pos rfl] at HLS
  go_wp2_with (first | (with_reducible refine stop_ix ?_) | ((with_reducible refine so4 [112, 1000 + 112, 113] ?_ ?_); (focus rfl)) | (with_reducible refine stop_app ?_) | (with_reducible refine stop_bs ?_))
  (with_reducible refine ⟨?_⟩)
  go_wp2_with (first | (with_reducible refine stop_ix ?_) | ((with_reducible refine so4 [112, 1000 + 112, 113] ?_ ?_); (focus rfl)) | (with_reducible refine stop_app ?_))
  (with_reducible refine ⟨?_⟩)
  change wpList _ _ _ _ _ (w3.alloc (.cells (intC k).toArray 3))
  have xa : Ex w3 (w3.alloc (.cells (intC k).toArray 3)) := Ex.alloc _ _
  have NB := Hi (Bk.new (g := w3.heap.size) (w := w3) rfl 3 (intC k).toArray)
  replace RW := Hi (xa.row RW.out)
  replace BW := Hi (Ex.trans BW.out xa)
  generalize hw4 : (w3.alloc (.cells (intC k).toArray 3)) = w4 at *
  generalize w3.heap.size = g4 at *
  clear hw4 xa
  obtain ⟨adx, ex, nx, rx⟩ := Many.rd (n := 1) (sz := 1) ⟨g4, rfl, NB.out⟩ (show (intC k).length = 1 * 1 from rfl)
  cases ex
  have RX := Hi rx
  clear rx nx NB
  (with_reducible refine at_any ?_ ?_); (focus go_simp); refine fun K0 hK => wp_rd _ _ 61 3 (.int .i64 0) 1 8 rfl Try.underlying61 Try.infoI rfl (by decide) w.heap.size (lentL p k).length _ _ rfl RW.out BW.out.sz' _ 1 1 _ rfl RX.out (Nat.le_refl _) (fun h => by cases h) (fun u hu => by rw [List.mem_singleton.1 hu]; rfl) (by omega) (by omega) (fun v5 w5 r1 r2 => hK _ _ ?_)
  clear hK
  have RW2 : Hid (w5.ownsRow w.heap.size 3 1 v5 (lentL p (k + 1)).length ((lentL p (k + 1)).flatMap intC)) := Hi (by rw [HLS.out, List.length_append, List.flatMap_append, List.flatMap_singleton]; exact r1)
  replace BW := Hi (show Ex w w5 from Below.trans (show Below w.heap.size w _ from BW.out) r2.below)
  clear r1 r2 c0
  go_wp2_with fail
  go_roundw
  case rel => exact ⟨k + 1, by omega, by go_num, RW2, BW⟩
  case measure => simp [intOf]; omega
def r16 : Rk := ⟨4, 5, 0, 1, zeroVt, none, 0, []⟩
theorem built_r16 : Try.prog.built 39 [(0, .int .i64 4), (1, .int .i64 5), (3, .int .u64 1)] = some r16.C.toArray := by kernel_rfl
theorem r16_in (w : World) : r16.In w := ⟨by unfold r16 i64; simp only; omega, by unfold r16 i64; simp only; omega, by unfold r16 i64; simp only; omega, by unfold r16; simp only; omega, ⟨zeroVt_ok, nilB_in _ _⟩, ⟨Nat.le_refl _, fun _ => rfl, fun i x hx => by simp [r16] at hx, fun h => absurd h (Nat.lt_irrefl 0)⟩, by decide, fun i x hx => by simp [r16] at hx⟩
theorem r16_done : r16.doneR := ⟨⟨by decide, by decide, by decide, by decide, rfl⟩, rfl, rfl⟩
theorem lent0 : lentL (newP 0 1) 16 = [] := by decide
set_option maxHeartbeats 8000000 in
set_option maxRecDepth 100000 in
theorem known16 (w : World) : Calls Try.prog 19 #[] w fun e w' => e = .returned (.bool true) ∧ Ex w w' := by
  go_enter Try.func19, Try.ntmps19
  go_wp2_with fail
  refine (snew_any 0 1 w (by decide)).mono ?_
  rintro e w1 ⟨M, D, r, v, rfl, h1, h2, h3, h4⟩
  have HS := Hi h1
  have BW := Hi h4
  clear h1 h2 h3 h4
  go_wp2_with fail
  refine (snew_bad 1 1 w1 (by decide)).mono ?_
  rintro e w2 ⟨rfl, rfl⟩
  go_wp2_with fail
  refine (role_any w.heap.size M 0 1 (newP 0 1) D r v 5 (by decide) w1 HS.out).mono ?_
  rintro e w2 ⟨rfl, x2⟩
  replace HS := Hi (HS.out.ext x2)
  replace BW := Hi (Ex.trans BW.out x2)
  clear x2
  rw [show newP 0 1 5 = ⟨1, 1, 0⟩ from rfl]
  go_wp2_with ((with_reducible refine so4 [4000 + 39] ?_ ?_); (focus rfl))
  refine at9 (by go_simp) fun K0 hK => wp_build _ _ rfl _ built_r16 (hK _ _ ?_)
  clear hK
  go_wp2_with fail
  refine (apply_done_bad w.heap.size M 0 1 (newP 0 1) D r v r16 rfl (by decide) w2 (r16_in _) HS.out).mono ?_
  rintro e w3 ⟨E, rfl, e1, _, x3⟩
  have e1 := e1 r16_done
  subst e1
  replace HS := Hi (HS.out.ext x3)
  replace BW := Hi (Ex.trans BW.out x3)
  clear x3
  go_wp2_with fail
  refine (lent_any w.heap.size M 0 1 (newP 0 1) D r v w3 HS.out).mono ?_
  rintro e w4 ⟨vl, rfl, hr, x4⟩
  rw [lent0] at hr
  obtain ⟨ad, cap, rfl, _⟩ := own_rd hr
  have Z := Hi (Ex.trans BW.out x4)
  clear hr x4
  go_wp2_with fail
  go_ret
  exact ⟨rfl, Z.out⟩
end Go.Proofs.Ytmjfnpmnhehnkaa
namespace Go.Proofs.Ytmjfnpmnhehnkaa
open Go.RowKit Go.ChangeShapes Go.WideShapes Go.WideMaps Go.MapKept
open Go.ChangeMaps (setBlock heap_setBlock_same heap_setBlock_other)
theorem Try.arrId : ArrKey Try.prog 32 5 4 := ⟨Try.underlying32, by kernel_rfl, by kernel_rfl, by kernel_rfl⟩
theorem Try.tysz : ∃ m, Try.prog.types.size = m + 1 := ⟨Try.prog.types.size - 1, by
  have h : decide (0 < Try.prog.types.size) = true := by kernel_rfl
  have := of_decide_eq_true h
  omega⟩
theorem wf_u8 (a : UInt8) : (Lit.int .u8 (a.toNat : Int)).wf = true := by
  have := a.toNat_lt
  simp [Lit.wf, IntKind.min, IntKind.max, IntKind.signed, IntKind.bits]
  omega
theorem key4 {id : List UInt8} (h : id.length = 4) : ∃ l, keyOf Try.prog 32 (digV id) = some l := by
  obtain ⟨a, b, c, d, rfl⟩ := len4 h
  have hkt := ArrKey.keyType Try.arrId Try.tysz
  obtain ⟨m, hm⟩ := Try.tysz
  refine ⟨.string (keyBytes [.int .u8 (a.toNat : Int), .int .u8 (b.toNat : Int), .int .u8 (c.toNat : Int), .int .u8 (d.toNat : Int)]), ?_⟩
  show keyOf Try.prog 32 (.agg #[.int .u8 (a.toNat : Int), .int .u8 (b.toNat : Int), .int .u8 (c.toNat : Int), .int .u8 (d.toNat : Int)]) = _
  unfold keyOf
  simp only [Try.arrId.hu]
  rw [if_pos (by simp [hkt, Value.formed, Try.arrId.hu, Try.arrId.size]), hm]
  unfold Program.keyLits
  simp only [Try.arrId.hu, Value.cells]
  rw [if_pos (by rw [Try.arrId.size]; rfl), show List.range 4 = [0, 1, 2, 3] from rfl, List.mapM_cons, List.mapM_cons, List.mapM_cons, List.mapM_cons, List.mapM_nil]
  simp [Try.arrId.one, Program.keyLits, Try.underlying5, wf_u8]
/-- a map's block: what it has -/
structure MB (w : World) (b : Nat) (ps : List (List UInt8 × Vt)) : Prop where
  ex : ∃ (es : Array MapEntry) (clock : Nat), w.heap[b]? = some (.map es clock) ∧ es.toList.map (fun e => (e.key, e.val)) = ps.map (fun p => (digV p.1, p.2.V))
  ids : ∀ p, p ∈ ps → p.1.length = 4
  nod : (ps.map (·.1)).Nodup
theorem MB.ext {w w' : World} {b : Nat} {ps : List (List UInt8 × Vt)} (h : MB w b ps) (k : w'.heap[b]? = w.heap[b]?) : MB w' b ps := ⟨by
  obtain ⟨es, c, h1, h2⟩ := h.ex
  exact ⟨es, c, k.trans h1, h2⟩, h.ids, h.nod⟩
theorem MB.lt {w : World} {b : Nat} {ps : List (List UInt8 × Vt)} (h : MB w b ps) : b < w.heap.size := by
  obtain ⟨es, c, h1, _⟩ := h.ex
  exact (Array.getElem?_eq_some_iff.1 h1).1
theorem MB.size {w : World} {b : Nat} {ps : List (List UInt8 × Vt)} (h : MB w b ps) : ∃ (es : Array MapEntry) (clock : Nat), w.heap[b]? = some (.map es clock) ∧ es.size = ps.length := by
  obtain ⟨es, c, h1, h2⟩ := h.ex
  exact ⟨es, c, h1, by have := congrArg List.length h2; simpa using this⟩
section
variable {o : Oper} {a : Act} {w : World} {K : Act → World → Prop} {Q : Exit → Act → World → Prop}
end
section
variable {P : Program} {ops : Array Oper} {rest : List Oper} {d : Option Tmp} {t2 : TypeId} {pos : String} {af : Array Edge} {g : Option (Nat × Bool)} {a : Act} {w : World} {Q : Exit → Act → World → Prop}
end
end Go.Proofs.Ytmjfnpmnhehnkaa
