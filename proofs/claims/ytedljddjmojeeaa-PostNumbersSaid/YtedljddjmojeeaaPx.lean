/- PostNumbers walked -/
import Derived.Test.YtedljddjmojeeaaPv
import Derived.Test.YtedljddjmojeeaaFlT
namespace Go.Proofs.Ytedljddjmojeeaa
open Go.RowKit
theorem stop_mk {P : Program} {ops : Array Oper} {rest : List Oper} {d : Option Tmp} {t2 : TypeId} {pos : String} {af : Array Edge} {g : Option (Nat × Bool)} {a : Act} {w : World} {Q : Exit → Act → World → Prop} {t : TypeId} {x y : Operand} (k : Stop (wpList P ops Q ({ dst := d, op := .makeSlice t x y, type := t2, pos := pos, after := af, guard := g } :: rest) a w)) : wpList P ops Q ({ dst := d, op := .makeSlice t x y, type := t2, pos := pos, after := af, guard := g } :: rest) a w := k.go
theorem made_zeroP (n : Nat) : (madeCells (Value.int .u8 0).cells (n * 1)).toList = Lib.byteCells (List.replicate n 0) := by
  rw [Nat.mul_one]
  show (madeCells #[Value.int .u8 0] n).toList = _
  rw [toList_madeCells_one]; simp [Lib.byteCells]
theorem Try.infoU8 : (Try.prog.info? 5).map (fun i => (i.zero, i.size, i.bytes)) = some (some (.int .u8 0), 1, 1) := by kernel_rfl
theorem wp_mkP {o : Oper} {a : Act} {w : World} {K : Act → World → Prop} {Q : Exit → Act → World → Prop} (x y : Operand) (ho : o.op = .makeSlice 28 x y) (n : Nat) (hx : a.eval x = .int .i64 n) (hy : a.eval y = .int .i64 n) (hn : n ≤ 100000)
    (h : ∀ w', Many w' 5 n (Lib.byteCells (List.replicate n 0)) (.slice (some ⟨w.heap.size, 0, none⟩) n n) → Ex w w' → K (a.put o.dst (.slice (some ⟨w.heap.size, 0, none⟩) n n)) w') : o.wp Try.prog a w K Q := by
  obtain ⟨i0, hi0, hz0, hz1, hz2⟩ := info_parts Try.infoU8
  obtain ⟨w', hr, h1, h2⟩ := run_make_full (P := Try.prog) w w.heap.size 28 5 i0 (.int .u8 0) 1 Try.underlying28 hi0 hz0 hz1 .i64 .i64 n (by rw [hz2]; omega) (by unfold maxLen; omega) (Nat.le_refl _)
  rw [made_zeroP] at h1
  unfold Oper.wp execOp
  simp only [ho, hx, hy, Sem.run_bind, hr]
  refine h w' ?_ ((Below.refl _ _).grown h2 (Nat.le_refl _) (fun k hk => by cases hk))
  obtain ⟨h3, ⟨hv, _⟩ | ⟨g, cap, cur, hv, hb, hh, hc, hm, hs, ht⟩⟩ := h1
  · cases hv
  · cases hv
    refine ⟨w.heap.size, rfl, ?_⟩
    have : cur = (Lib.byteCells (List.replicate n 0)).toArray := by
      have e : cur.toList.take (n * 1) = cur.toList := List.take_of_length_le (by simp [hs])
      rw [e] at ht
      rw [← ht, Array.toArray_toList]
    rw [← this]; exact hh
theorem many_pn {w : World} {n g : Nat} {l : List UInt8} (h : Bk w g 5 (Lib.byteCells l).toArray) (hl : l.length = n) : PN w 0 ⟨some ⟨g, 0, none⟩, n, l⟩ := by
  refine ⟨⟨by show l.length ≤ n; omega, (fun h => by cases h), fun _ => ⟨g, 0, rfl, h.lt, fun i hi => ?_⟩⟩, fun a e => ⟨Nat.zero_le _, ?_⟩⟩
  · have hi' : i < l.length := hi
    rw [Nat.zero_add, h.cell]
    simp [Lib.byteCells, List.getD, hi']
  · cases e; exact ⟨_, h⟩
theorem kt10_at (r : Nat) (hr : r < 10) : ((kt10.map (Value.int .i64)).toArray)[r]? = some (.int .i64 (kt10.getD r 0)) ∧ 0 ≤ kt10.getD r 0 ∧ kt10.getD r 0 ≤ 8 := by
  rcases r with _ | _ | _ | _ | _ | _ | _ | _ | _ | _ | r
  all_goals first | (exact ⟨rfl, by decide, by decide⟩) | omega
theorem built_ak (kd i : Int) (x : Lt) : Try.prog.built 72 [(0, .int .i64 kd), (1, .int .i64 i), (2, x.V)] = some (Ak.mk kd i x).C.toArray := by
  obtain ⟨k, f, t, ad, cap, l⟩ := x
  kernel_rfl
theorem built_ak1 (x : Lt) : Try.prog.built 72 [(2, x.V)] = some (Ak.mk 0 0 x).C.toArray := by
  obtain ⟨k, f, t, ad, cap, l⟩ := x
  kernel_rfl
theorem built_ak2 (i : Int) : Try.prog.built 72 [(0, .int .i64 6), (1, .int .i64 i)] = some (Ak.mk 6 i zeroLt).C.toArray := by kernel_rfl
theorem built_pb' (n g : Nat) : Try.prog.built 70 [(3, .slice (some ⟨g, 0, none⟩) n n)] = some [.int .i64 0, .int .i64 0, .int .i64 0, .slice (some ⟨g, 0, none⟩) n n].toArray := by kernel_rfl
theorem built_pb (n g : Nat) : Try.prog.built 70 [(3, .slice (some ⟨g, 0, none⟩) n n)] = some (Lt.mk 0 0 0 ⟨some ⟨g, 0, none⟩, n, List.replicate n 0⟩).C.toArray := by
  have e : (Lt.mk 0 0 0 ⟨some ⟨g, 0, none⟩, n, List.replicate n 0⟩).C = [.int .i64 0, .int .i64 0, .int .i64 0, .slice (some ⟨g, 0, none⟩) n n] := by
    unfold Lt.C Pt.V
    simp only [List.length_replicate]
  rw [e]
  exact built_pb' n g
def Rw.ltr {B : Nat} : Rw B := ⟨[5], fun v w => ∃ x : Lt, v = x.V ∧ LN w 0 x ∧ x.bs.l.length ≤ 10000, fun _ _ _ _ ⟨x, h1, h2, h3⟩ k hs => ⟨x, h1, h2.kt k (hs _ (by simp)), h3⟩⟩
def Rw.ask {B : Nat} : Rw B := ⟨[5], fun v w => ∃ x : Ak, v = x.V ∧ x.Ok w, fun _ _ _ _ ⟨x, h1, h2⟩ k hs => ⟨x, h1, h2.kt k (hs _ (by simp))⟩⟩
def Rw.ask1 {B : Nat} : Rw B := ⟨[72, 5], fun v w => ∃ x : Ak, Many w 72 1 x.C v ∧ x.Ok w, fun _ _ _ _ ⟨x, ⟨g, h1, h2⟩, h3⟩ k hs => ⟨x, ⟨g, h1, k.bk h2 (hs _ (by simp))⟩, h3.kt k (hs _ (by simp))⟩⟩
def Rw.arow {B : Nat} (n : Nat) : Rw B := ⟨[72, 5], fun v w => ∃ l, ARow w B v n l, fun _ _ _ _ ⟨l, h⟩ k hs => ⟨l, h.len, k.row h.row (hs _ (by simp)), fun x hx => (h.all x hx).kt k (hs _ (by simp))⟩⟩
theorem ARow.app {w w2 : World} {B : Nat} {v v' : Value} {n m : Nat} {l ys : List Ak} (h : ARow w B v n l) (k : Kt [72] B w w2) (hr : w2.ownsRow B 72 6 v' (n + m) (l.flatMap Ak.C ++ ys.flatMap Ak.C)) (hm : ys.length = m) (hy : ∀ x ∈ ys, x.Ok w) : ARow w2 B v' (n + m) (l ++ ys) :=
  ⟨by rw [List.length_append, h.len, hm], by rw [List.flatMap_append]; exact hr, fun x hx => by
    rcases List.mem_append.1 hx with hx | hx
    · exact (h.all x hx).kt k (by decide)
    · exact (hy x hx).kt k (by decide)⟩
set_option maxHeartbeats 4000000 in
set_option maxRecDepth 100000 in
theorem numbers_any (w : World) : Calls Try.prog 9 #[] w fun e w' => e = .returned (.bool true) ∧ Ex w w' := by
  go_enter Try.func9, Try.ntmps9
  go_wp2_with (first | (with_reducible refine stop_load (t := 70) ?_) | (with_reducible refine stop_store (t := 70) ?_) | (with_reducible refine stop_build (t := 70) ?_) | (with_reducible refine stop_load (t := 72) ?_) | (with_reducible refine stop_store (t := 72) ?_) | (with_reducible refine stop_build (t := 72) ?_) | (with_reducible refine stop_bs (t := 68) ?_) | (with_reducible refine stop_app ?_) | (with_reducible refine stop_mk ?_))
  go_loopw [1, 2] (fun v i wr => ∃ k : Nat, k ≤ 200 ∧ i = .int .i64 k ∧ Hid (∃ l, ARow wr w.heap.size v k l) ∧ Hid (Ex w wr)) (fun _ i _ => 200 - (intOf i).toNat)
  case atStart => exact ⟨0, by omega, rfl, Lib.hid ⟨[], rfl, World.ownsRow_nil _ _ _ _, fun x hx => by simp at hx⟩, Lib.hid (Ex.refl _)⟩
  case round =>
    obtain ⟨k, hk, rfl, V0, BW⟩ := hrel
    by_cases hlt : k < 200
    · have q1 : (k : Int) < 200 := by omega
      have q0 : (0 : Int) ≤ (k : Int) := by omega
      obtain ⟨l, hl⟩ := V0.out
      clear V0
      have V0 := Lib.hid hl
      clear hl
      obtain ⟨v, hv⟩ : ∃ v, v = u1 := ⟨_, rfl⟩
      rw [← hv] at V0 ⊢
      clear hv
      obtain ⟨r10, hr10⟩ : ∃ r : Nat, r = k % 10 := ⟨_, rfl⟩
      obtain ⟨s7, hs7⟩ : ∃ r : Nat, r = k * 7 := ⟨_, rfl⟩
      obtain ⟨r20, hr20⟩ : ∃ r : Nat, r = k * 7 % 20 := ⟨_, rfl⟩
      obtain ⟨r5, hr5⟩ : ∃ r : Nat, r = k % 5 := ⟨_, rfl⟩
      obtain ⟨r9, hr9⟩ : ∃ r : Nat, r = k % 9 := ⟨_, rfl⟩
      have b10 : r10 < 10 := by omega
      have bs7 : s7 ≤ 1400 := by omega
      have b20 : r20 < 20 := by omega
      have b5 : r5 < 5 := by omega
      have b9 : r9 < 9 := by omega
      have b10i : ((r10 : Nat) : Int) < 10 := by omega
      have b9i : ((r9 : Nat) : Int) ≤ 8 := by omega
      obtain ⟨kd, hkd⟩ : ∃ kd, kd = kt10.getD r10 0 := ⟨_, rfl⟩
      have KD := Lib.hid (kt10_at r10 b10)
      rw [← hkd] at KD
      clear hkd
      have Hr10 := Lib.hid hr10
      have Hs7 := Lib.hid hs7
      have Hr20 := Lib.hid hr20
      have Hr5 := Lib.hid hr5
      have Hr9 := Lib.hid hr9
      clear hr10 hs7 hr20 hr5 hr9
      go_wp2_with fail
      obtain ⟨T, hT⟩ : ∃ T : List (Rw w.heap.size), T = [.own 72 6 (k) (l.flatMap Ak.C), .many 3 (10) (kt10.map (Value.int .i64)), .is (.int .i64 k), .is (.int .i64 r10), .ptr 3 (r10) (kt10.map (Value.int .i64)), .is (.int .i64 kd), .is (.int .i64 k), .is (.int .i64 s7), .is (.int .i64 r20), .is (.int .i64 k), .is (.int .i64 r5), .is (.int .i64 k), .is (.int .i64 k), .is (.int .i64 (-(k : Int))), .is (.int .i64 k), .is (.int .i64 r9), .many 5 (r9) (Lib.byteCells (List.replicate r9 0)), .ltr, .ask, .ask1, .arow (k + 1), .arow (k + 1)] := ⟨_, rfl⟩
      have HTY : T.map Rw.tys = ([[72], [3], [], [], [3], [], [], [], [], [], [], [], [], [], [], [], [5], [5], [5], [72, 5], [72, 5], [72, 5]] : List (List Nat)) := by rw [hT]; rfl
      refine wp_region_gen (JW w.heap.size wr [72] T ([[72], [3], [], [], [3], [], [], [], [], [], [], [], [], [], [], [], [5], [5], [5], [72, 5], [72, 5], [72, 5]] : List (List Nat)) ([some 20, none, none, none, none, none, none, none, none, none, none, none, none, none, none, none, none, none, none, some 20, none, none] : List (Option Nat)) ([(20, 0), (21, 20)] : List (Nat × Nat)) 20) (by kernel_rfl) (by kernel_rfl) (by kernel_rfl) (fitB_spec (by kernel_rfl)) (fun listed f h => JW.start BW.out.sz listed f h) ?_ ?_
      · intro i o ho
        have hi : i < 22 := (Array.getElem?_eq_some_iff.1 ho).1
        have hi' : i = 0 ∨ i = 1 ∨ i = 2 ∨ i = 3 ∨ i = 4 ∨ i = 5 ∨ i = 6 ∨ i = 7 ∨ i = 8 ∨ i = 9 ∨ i = 10 ∨ i = 11 ∨ i = 12 ∨ i = 13 ∨ i = 14 ∨ i = 15 ∨ i = 16 ∨ i = 17 ∨ i = 18 ∨ i = 19 ∨ i = 20 ∨ i = 21 := by omega
        clear hi
        rcases hi' with rfl | rfl | rfl | rfl | rfl | rfl | rfl | rfl | rfl | rfl | rfl | rfl | rfl | rfl | rfl | rfl | rfl | rfl | rfl | rfl | rfl | rfl
        all_goals (simp only [List.getElem?_toArray, List.getElem?_cons_zero, List.getElem?_cons_succ, Option.some.injEq] at ho; subst ho; intro listed f a w2 hJ hsz hls hun hdep hout hlat)
        · rw [if_pos (by rfl)]
          intro K hK
          have q1 := hlat 1 21 _ rfl rfl ⟨⟨0, .phase⟩, by simp, rfl, rfl⟩
          have hord : ∀ x ∈ ([(20, 0), (21, 20)] : List (Nat × Nat)), x.1 = 0 → listed.getD x.2 false = true := (by intro x hx he; simp only [List.mem_cons, List.not_mem_nil, or_false] at hx; rcases hx with rfl | rfl; all_goals first | (exact absurd he (by decide)) | assumption)
          have hcut : listed.getD 20 false = false := by
            cases hc : listed.getD 20 false with
            | false => rfl
            | true => exact absurd (hJ.ord (20, 0) (by simp) hc) (by rw [hun]; decide)
          refine wp_mv _ rfl (hK _ _ ?_)
          rw [show a.eval (.tmp 1) = v from q1]
          exact hJ.plain HTY (by rw [hls]; decide) (Ex.refl _) (by rw [hT]; exact (hJ.pre hcut).row V0.out.row) hord
        · rw [if_pos (by rfl)]
          intro K hK
          have hord : ∀ x ∈ ([(20, 0), (21, 20)] : List (Nat × Nat)), x.1 = 1 → listed.getD x.2 false = true := (by intro x hx he; simp only [List.mem_cons, List.not_mem_nil, or_false] at hx; rcases hx with rfl | rfl; all_goals first | (exact absurd he (by decide)) | assumption)
          clear hsz hdep hout hlat
          go_simp
          exact hK _ _ (hJ.plain HTY (by rw [hls]; decide) (Ex.alloc _ _) (by rw [hT]; exact ⟨_, rfl, Bk.new rfl _ _⟩) hord)
        · rw [if_pos (by rfl)]
          intro K hK
          have q2 := hout 2 (outB_spec (by kernel_rfl))
          have hord : ∀ x ∈ ([(20, 0), (21, 20)] : List (Nat × Nat)), x.1 = 2 → listed.getD x.2 false = true := (by intro x hx he; simp only [List.mem_cons, List.not_mem_nil, or_false] at hx; rcases hx with rfl | rfl; all_goals first | (exact absurd he (by decide)) | assumption)
          refine wp_mv _ rfl (hK _ _ ?_)
          rw [show a.eval (.tmp 2) = .int .i64 k from q2]
          exact hJ.plain HTY (by rw [hls]; decide) (Ex.refl _) (by rw [hT]; rfl) hord
        · rw [if_pos (by rfl)]
          intro K hK
          have dd11 := hdep ⟨2, .data⟩ (by simp) rfl
          have q11 := dd11.2 _ rfl _ rfl
          have h11 := hJ.vals 2 dd11.1 (fun c hc => by have hc : none = some c := hc; cases hc)
          rw [hT] at h11
          rw [show f 2 = .int .i64 k from h11] at q11
          clear h11
          clear dd11
          have hord : ∀ x ∈ ([(20, 0), (21, 20)] : List (Nat × Nat)), x.1 = 3 → listed.getD x.2 false = true := (by intro x hx he; simp only [List.mem_cons, List.not_mem_nil, or_false] at hx; rcases hx with rfl | rfl; all_goals first | (exact absurd he (by decide)) | assumption)
          rw [Array.getD_eq_getD_getElem?] at q11
          clear hsz hdep hout hlat
          go_simp
          exact hK _ _ (hJ.plain HTY (by rw [hls]; decide) (Ex.refl _) (by rw [hT]; first | rfl | exact congrArg (Value.int .i64) (by rw [Hr10.out]; omega) | exact congrArg (Value.int .i64) (by have := Hr10.out; first | omega | (rw [this]; rfl) | (simp only [Int.tmod]; omega) | (rw [Int.tmod_eq_emod_of_nonneg (by omega)]; omega) | (rw [IntKind.wrap_i64]; omega))) hord)
        · rw [if_pos (by rfl)]
          intro K hK
          have dd10 := hdep ⟨1, .data⟩ (by simp) rfl
          have q10 := dd10.2 _ rfl _ rfl
          have h10 := hJ.vals 1 dd10.1 (fun c hc => by have hc : none = some c := hc; cases hc)
          rw [hT] at h10
          have h10 : Many w2 3 (10) (kt10.map (Value.int .i64)) (f 1) := h10
          have m10 := h10
          obtain ⟨g10, e10, b10⟩ := m10
          rw [e10] at q10 h10
          clear e10
          clear dd10
          have dd12 := hdep ⟨3, .data⟩ (by simp) rfl
          have q12 := dd12.2 _ rfl _ rfl
          have h12 := hJ.vals 3 dd12.1 (fun c hc => by have hc : none = some c := hc; cases hc)
          rw [hT] at h12
          rw [show f 3 = .int .i64 r10 from h12] at q12
          clear h12
          clear dd12
          have hord : ∀ x ∈ ([(20, 0), (21, 20)] : List (Nat × Nat)), x.1 = 4 → listed.getD x.2 false = true := (by intro x hx he; simp only [List.mem_cons, List.not_mem_nil, or_false] at hx; rcases hx with rfl | rfl; all_goals first | (exact absurd he (by decide)) | assumption)
          rw [Array.getD_eq_getD_getElem?] at q10
          rw [Array.getD_eq_getD_getElem?] at q12
          clear hsz hdep hout hlat
          go_simp
          exact hK _ _ (hJ.plain HTY (by rw [hls]; decide) (Ex.refl _) (by rw [hT]; exact ⟨g10, rfl, b10⟩) hord)
        · rw [if_pos (by rfl)]
          intro K hK
          have dd13 := hdep ⟨4, .data⟩ (by simp) rfl
          have q13 := dd13.2 _ rfl _ rfl
          have h13 := hJ.vals 4 dd13.1 (fun c hc => by have hc : none = some c := hc; cases hc)
          rw [hT] at h13
          obtain ⟨g13, e13, b13⟩ := h13
          rw [e13] at q13
          clear e13
          clear dd13
          have hord : ∀ x ∈ ([(20, 0), (21, 20)] : List (Nat × Nat)), x.1 = 5 → listed.getD x.2 false = true := (by intro x hx he; simp only [List.mem_cons, List.not_mem_nil, or_false] at hx; rcases hx with rfl | rfl; all_goals first | (exact absurd he (by decide)) | assumption)
          rw [Array.getD_eq_getD_getElem?] at q13
          have c1 := (b13.cell r10).trans KD.out.1
          clear hsz hdep hout hlat
          go_simp
          exact hK _ _ (hJ.plain HTY (by rw [hls]; decide) (Ex.refl _) (by rw [hT]; rfl) hord)
        · rw [if_pos (by rfl)]
          intro K hK
          have q2 := hout 2 (outB_spec (by kernel_rfl))
          have hord : ∀ x ∈ ([(20, 0), (21, 20)] : List (Nat × Nat)), x.1 = 6 → listed.getD x.2 false = true := (by intro x hx he; simp only [List.mem_cons, List.not_mem_nil, or_false] at hx; rcases hx with rfl | rfl; all_goals first | (exact absurd he (by decide)) | assumption)
          refine wp_mv _ rfl (hK _ _ ?_)
          rw [show a.eval (.tmp 2) = .int .i64 k from q2]
          exact hJ.plain HTY (by rw [hls]; decide) (Ex.refl _) (by rw [hT]; rfl) hord
        · rw [if_pos (by rfl)]
          intro K hK
          have dd15 := hdep ⟨6, .data⟩ (by simp) rfl
          have q15 := dd15.2 _ rfl _ rfl
          have h15 := hJ.vals 6 dd15.1 (fun c hc => by have hc : none = some c := hc; cases hc)
          rw [hT] at h15
          rw [show f 6 = .int .i64 k from h15] at q15
          clear h15
          clear dd15
          have hord : ∀ x ∈ ([(20, 0), (21, 20)] : List (Nat × Nat)), x.1 = 7 → listed.getD x.2 false = true := (by intro x hx he; simp only [List.mem_cons, List.not_mem_nil, or_false] at hx; rcases hx with rfl | rfl; all_goals first | (exact absurd he (by decide)) | assumption)
          rw [Array.getD_eq_getD_getElem?] at q15
          clear hsz hdep hout hlat
          go_simp
          exact hK _ _ (hJ.plain HTY (by rw [hls]; decide) (Ex.refl _) (by rw [hT]; first | rfl | exact congrArg (Value.int .i64) (by rw [Hs7.out]; omega) | exact congrArg (Value.int .i64) (by have := Hs7.out; first | omega | (rw [this]; rfl) | (simp only [Int.tmod]; omega) | (rw [Int.tmod_eq_emod_of_nonneg (by omega)]; omega) | (rw [IntKind.wrap_i64]; omega))) hord)
        · rw [if_pos (by rfl)]
          intro K hK
          have dd16 := hdep ⟨7, .data⟩ (by simp) rfl
          have q16 := dd16.2 _ rfl _ rfl
          have h16 := hJ.vals 7 dd16.1 (fun c hc => by have hc : none = some c := hc; cases hc)
          rw [hT] at h16
          rw [show f 7 = .int .i64 s7 from h16] at q16
          clear h16
          clear dd16
          have hord : ∀ x ∈ ([(20, 0), (21, 20)] : List (Nat × Nat)), x.1 = 8 → listed.getD x.2 false = true := (by intro x hx he; simp only [List.mem_cons, List.not_mem_nil, or_false] at hx; rcases hx with rfl | rfl; all_goals first | (exact absurd he (by decide)) | assumption)
          rw [Array.getD_eq_getD_getElem?] at q16
          have hz8 : ((s7 : Nat) : Int).tmod 20 = (r20 : Int) := by rw [Int.tmod_eq_emod_of_nonneg (by omega)]; have h1 := Hs7.out; have h2 := Hr20.out; omega
          clear hsz hdep hout hlat
          go_simp
          exact hK _ _ (hJ.plain HTY (by rw [hls]; decide) (Ex.refl _) (by rw [hT]; first | rfl | exact congrArg (Value.int .i64) hz8 | exact congrArg (Value.int .i64) (by have h1 := Hs7.out; have h2 := Hr20.out; omega)) hord)
        · rw [if_pos (by rfl)]
          intro K hK
          have q2 := hout 2 (outB_spec (by kernel_rfl))
          have hord : ∀ x ∈ ([(20, 0), (21, 20)] : List (Nat × Nat)), x.1 = 9 → listed.getD x.2 false = true := (by intro x hx he; simp only [List.mem_cons, List.not_mem_nil, or_false] at hx; rcases hx with rfl | rfl; all_goals first | (exact absurd he (by decide)) | assumption)
          refine wp_mv _ rfl (hK _ _ ?_)
          rw [show a.eval (.tmp 2) = .int .i64 k from q2]
          exact hJ.plain HTY (by rw [hls]; decide) (Ex.refl _) (by rw [hT]; rfl) hord
        · rw [if_pos (by rfl)]
          intro K hK
          have dd18 := hdep ⟨9, .data⟩ (by simp) rfl
          have q18 := dd18.2 _ rfl _ rfl
          have h18 := hJ.vals 9 dd18.1 (fun c hc => by have hc : none = some c := hc; cases hc)
          rw [hT] at h18
          rw [show f 9 = .int .i64 k from h18] at q18
          clear h18
          clear dd18
          have hord : ∀ x ∈ ([(20, 0), (21, 20)] : List (Nat × Nat)), x.1 = 10 → listed.getD x.2 false = true := (by intro x hx he; simp only [List.mem_cons, List.not_mem_nil, or_false] at hx; rcases hx with rfl | rfl; all_goals first | (exact absurd he (by decide)) | assumption)
          rw [Array.getD_eq_getD_getElem?] at q18
          clear hsz hdep hout hlat
          go_simp
          exact hK _ _ (hJ.plain HTY (by rw [hls]; decide) (Ex.refl _) (by rw [hT]; first | rfl | exact congrArg (Value.int .i64) (by rw [Hr5.out]; omega) | exact congrArg (Value.int .i64) (by have := Hr5.out; first | omega | (rw [this]; rfl) | (simp only [Int.tmod]; omega) | (rw [Int.tmod_eq_emod_of_nonneg (by omega)]; omega) | (rw [IntKind.wrap_i64]; omega))) hord)
        · rw [if_pos (by rfl)]
          intro K hK
          have q2 := hout 2 (outB_spec (by kernel_rfl))
          have hord : ∀ x ∈ ([(20, 0), (21, 20)] : List (Nat × Nat)), x.1 = 11 → listed.getD x.2 false = true := (by intro x hx he; simp only [List.mem_cons, List.not_mem_nil, or_false] at hx; rcases hx with rfl | rfl; all_goals first | (exact absurd he (by decide)) | assumption)
          refine wp_mv _ rfl (hK _ _ ?_)
          rw [show a.eval (.tmp 2) = .int .i64 k from q2]
          exact hJ.plain HTY (by rw [hls]; decide) (Ex.refl _) (by rw [hT]; rfl) hord
        · rw [if_pos (by rfl)]
          intro K hK
          have q2 := hout 2 (outB_spec (by kernel_rfl))
          have hord : ∀ x ∈ ([(20, 0), (21, 20)] : List (Nat × Nat)), x.1 = 12 → listed.getD x.2 false = true := (by intro x hx he; simp only [List.mem_cons, List.not_mem_nil, or_false] at hx; rcases hx with rfl | rfl; all_goals first | (exact absurd he (by decide)) | assumption)
          refine wp_mv _ rfl (hK _ _ ?_)
          rw [show a.eval (.tmp 2) = .int .i64 k from q2]
          exact hJ.plain HTY (by rw [hls]; decide) (Ex.refl _) (by rw [hT]; rfl) hord
        · rw [if_pos (by rfl)]
          intro K hK
          have dd21 := hdep ⟨12, .data⟩ (by simp) rfl
          have q21 := dd21.2 _ rfl _ rfl
          have h21 := hJ.vals 12 dd21.1 (fun c hc => by have hc : none = some c := hc; cases hc)
          rw [hT] at h21
          rw [show f 12 = .int .i64 k from h21] at q21
          clear h21
          clear dd21
          have hord : ∀ x ∈ ([(20, 0), (21, 20)] : List (Nat × Nat)), x.1 = 13 → listed.getD x.2 false = true := (by intro x hx he; simp only [List.mem_cons, List.not_mem_nil, or_false] at hx; rcases hx with rfl | rfl; all_goals first | (exact absurd he (by decide)) | assumption)
          rw [Array.getD_eq_getD_getElem?] at q21
          clear hsz hdep hout hlat
          go_simp
          exact hK _ _ (hJ.plain HTY (by rw [hls]; decide) (Ex.refl _) (by rw [hT]; first | rfl | exact congrArg (Value.int .i64) (by omega) | exact congrArg (Value.int .i64) (by rw [IntKind.wrap_i64]; omega)) hord)
        · rw [if_pos (by rfl)]
          intro K hK
          have q2 := hout 2 (outB_spec (by kernel_rfl))
          have hord : ∀ x ∈ ([(20, 0), (21, 20)] : List (Nat × Nat)), x.1 = 14 → listed.getD x.2 false = true := (by intro x hx he; simp only [List.mem_cons, List.not_mem_nil, or_false] at hx; rcases hx with rfl | rfl; all_goals first | (exact absurd he (by decide)) | assumption)
          refine wp_mv _ rfl (hK _ _ ?_)
          rw [show a.eval (.tmp 2) = .int .i64 k from q2]
          exact hJ.plain HTY (by rw [hls]; decide) (Ex.refl _) (by rw [hT]; rfl) hord
        · rw [if_pos (by rfl)]
          intro K hK
          have dd23 := hdep ⟨14, .data⟩ (by simp) rfl
          have q23 := dd23.2 _ rfl _ rfl
          have h23 := hJ.vals 14 dd23.1 (fun c hc => by have hc : none = some c := hc; cases hc)
          rw [hT] at h23
          rw [show f 14 = .int .i64 k from h23] at q23
          clear h23
          clear dd23
          have hord : ∀ x ∈ ([(20, 0), (21, 20)] : List (Nat × Nat)), x.1 = 15 → listed.getD x.2 false = true := (by intro x hx he; simp only [List.mem_cons, List.not_mem_nil, or_false] at hx; rcases hx with rfl | rfl; all_goals first | (exact absurd he (by decide)) | assumption)
          rw [Array.getD_eq_getD_getElem?] at q23
          clear hsz hdep hout hlat
          go_simp
          exact hK _ _ (hJ.plain HTY (by rw [hls]; decide) (Ex.refl _) (by rw [hT]; first | rfl | exact congrArg (Value.int .i64) (by rw [Hr9.out]; omega) | exact congrArg (Value.int .i64) (by have := Hr9.out; first | omega | (rw [this]; rfl) | (simp only [Int.tmod]; omega) | (rw [Int.tmod_eq_emod_of_nonneg (by omega)]; omega) | (rw [IntKind.wrap_i64]; omega))) hord)
        · rw [if_pos (by rfl)]
          intro K hK
          have dd24 := hdep ⟨15, .data⟩ (by simp) rfl
          have q24 := dd24.2 _ rfl _ rfl
          have h24 := hJ.vals 15 dd24.1 (fun c hc => by have hc : none = some c := hc; cases hc)
          rw [hT] at h24
          rw [show f 15 = .int .i64 r9 from h24] at q24
          clear h24
          clear dd24
          have hord : ∀ x ∈ ([(20, 0), (21, 20)] : List (Nat × Nat)), x.1 = 16 → listed.getD x.2 false = true := (by intro x hx he; simp only [List.mem_cons, List.not_mem_nil, or_false] at hx; rcases hx with rfl | rfl; all_goals first | (exact absurd he (by decide)) | assumption)
          exact wp_mkP (.tmp 24) (.tmp 24) rfl r9 q24 q24 (by omega) (fun w' hm x3 => hK _ _ (hJ.plain HTY (by rw [hls]; decide) x3 (by rw [hT]; exact hm) hord))
        · rw [if_pos (by rfl)]
          intro K hK
          have dd19 := hdep ⟨10, .data⟩ (by simp) rfl
          have q19 := dd19.2 _ rfl _ rfl
          have h19 := hJ.vals 10 dd19.1 (fun c hc => by have hc : none = some c := hc; cases hc)
          rw [hT] at h19
          rw [show f 10 = .int .i64 r5 from h19] at q19
          clear h19
          clear dd19
          have dd20 := hdep ⟨11, .data⟩ (by simp) rfl
          have q20 := dd20.2 _ rfl _ rfl
          have h20 := hJ.vals 11 dd20.1 (fun c hc => by have hc : none = some c := hc; cases hc)
          rw [hT] at h20
          rw [show f 11 = .int .i64 k from h20] at q20
          clear h20
          clear dd20
          have dd22 := hdep ⟨13, .data⟩ (by simp) rfl
          have q22 := dd22.2 _ rfl _ rfl
          have h22 := hJ.vals 13 dd22.1 (fun c hc => by have hc : none = some c := hc; cases hc)
          rw [hT] at h22
          rw [show f 13 = .int .i64 (-(k : Int)) from h22] at q22
          clear h22
          clear dd22
          have dd25 := hdep ⟨16, .data⟩ (by simp) rfl
          have q25 := dd25.2 _ rfl _ rfl
          have h25 := hJ.vals 16 dd25.1 (fun c hc => by have hc : none = some c := hc; cases hc)
          rw [hT] at h25
          have h25 : Many w2 5 (r9) (Lib.byteCells (List.replicate r9 0)) (f 16) := h25
          have m25 := h25
          obtain ⟨g25, e25, b25⟩ := m25
          rw [e25] at q25 h25
          clear e25
          clear dd25
          have hord : ∀ x ∈ ([(20, 0), (21, 20)] : List (Nat × Nat)), x.1 = 17 → listed.getD x.2 false = true := (by intro x hx he; simp only [List.mem_cons, List.not_mem_nil, or_false] at hx; rcases hx with rfl | rfl; all_goals first | (exact absurd he (by decide)) | assumption)
          have PB := many_pn (n := r9) b25 List.length_replicate
          refine wp_build _ _ rfl _ ?_ (hK _ _ (hJ.plain HTY (by rw [hls]; decide) (Ex.refl _) (by rw [hT]; exact ⟨Lt.mk r5 k (-(k : Int)) ⟨some ⟨g25, 0, none⟩, r9, List.replicate r9 0⟩, rfl, ⟨⟨by show (_ : Int) ≤ (r5 : Int); omega, by show (r5 : Int) ≤ _; omega, by show (_ : Int) ≤ (k : Int); omega, by show (k : Int) ≤ _; omega, by show (_ : Int) ≤ -(k : Int); omega, by show -(k : Int) ≤ _; omega⟩, PB⟩, by show (List.replicate r9 (0 : UInt8)).length ≤ 10000; rw [List.length_replicate]; omega⟩) hord))
          simp only [List.map_cons, List.map_nil, show a.eval (.tmp 19) = _ from q19, show a.eval (.tmp 20) = _ from q20, show a.eval (.tmp 22) = _ from q22, show a.eval (.tmp 25) = _ from q25]
          exact built_pl r5 k (-(k : Int)) g25 r9
        · rw [if_pos (by rfl)]
          intro K hK
          have dd14 := hdep ⟨5, .data⟩ (by simp) rfl
          have q14 := dd14.2 _ rfl _ rfl
          have h14 := hJ.vals 5 dd14.1 (fun c hc => by have hc : none = some c := hc; cases hc)
          rw [hT] at h14
          rw [show f 5 = .int .i64 kd from h14] at q14
          clear h14
          clear dd14
          have dd17 := hdep ⟨8, .data⟩ (by simp) rfl
          have q17 := dd17.2 _ rfl _ rfl
          have h17 := hJ.vals 8 dd17.1 (fun c hc => by have hc : none = some c := hc; cases hc)
          rw [hT] at h17
          rw [show f 8 = .int .i64 r20 from h17] at q17
          clear h17
          clear dd17
          have dd26 := hdep ⟨17, .data⟩ (by simp) rfl
          have q26 := dd26.2 _ rfl _ rfl
          have h26 := hJ.vals 17 dd26.1 (fun c hc => by have hc : none = some c := hc; cases hc)
          rw [hT] at h26
          have h26 : (fun v w => ∃ x : Lt, v = x.V ∧ LN w 0 x ∧ x.bs.l.length ≤ 10000) (f 17) w2 := h26
          obtain ⟨x26, e26, n26, s26⟩ := h26
          rw [e26] at q26
          clear dd26
          have hord : ∀ x ∈ ([(20, 0), (21, 20)] : List (Nat × Nat)), x.1 = 18 → listed.getD x.2 false = true := (by intro x hx he; simp only [List.mem_cons, List.not_mem_nil, or_false] at hx; rcases hx with rfl | rfl; all_goals first | (exact absurd he (by decide)) | assumption)
          refine wp_build _ _ rfl _ ?_ (hK _ _ (hJ.plain HTY (by rw [hls]; decide) (Ex.refl _) (by rw [hT]; exact ⟨Ak.mk kd r20 x26, rfl, ⟨⟨by show (_ : Int) ≤ kd; have := KD.out.2; omega, by show kd ≤ _; have := KD.out.2; omega⟩, ⟨by show (_ : Int) ≤ (r20 : Int); omega, by show (r20 : Int) ≤ _; omega⟩, n26, s26⟩⟩) hord))
          simp only [List.map_cons, List.map_nil, show a.eval (.tmp 14) = _ from q14, show a.eval (.tmp 17) = _ from q17, show a.eval (.tmp 26) = _ from q26]
          exact built_ak kd r20 x26
        · rw [if_pos (by rfl)]
          intro K hK
          have dd27 := hdep ⟨18, .data⟩ (by simp) rfl
          have q27 := dd27.2 _ rfl _ rfl
          have h27 := hJ.vals 18 dd27.1 (fun c hc => by have hc : none = some c := hc; cases hc)
          rw [hT] at h27
          have h27 : (fun v w => ∃ x : Ak, v = x.V ∧ x.Ok w) (f 18) w2 := h27
          obtain ⟨x27, e27, n27⟩ := h27
          rw [e27] at q27
          clear dd27
          have hord : ∀ x ∈ ([(20, 0), (21, 20)] : List (Nat × Nat)), x.1 = 19 → listed.getD x.2 false = true := (by intro x hx he; simp only [List.mem_cons, List.not_mem_nil, or_false] at hx; rcases hx with rfl | rfl; all_goals first | (exact absurd he (by decide)) | assumption)
          exact wp_bsa (.tmp 27) x27 rfl q27 (hK _ _ (hJ.plain HTY (by rw [hls]; decide) (Ex.alloc _ _) (by rw [hT]; exact ⟨x27, ⟨_, rfl, Bk.new rfl _ _⟩, n27.ext (Ex.alloc _ _)⟩) hord))
        · rw [if_pos (by rfl)]
          intro K hK
          have dd9 := hdep ⟨0, .data⟩ (by simp) rfl
          have q9 := dd9.2 _ rfl _ rfl
          have h9 := hJ.vals 0 dd9.1 (fun c hc => by have hc : some 20 = some c := hc; cases hc; exact hun)
          rw [hT] at h9
          have h9 : w2.ownsRow w.heap.size 72 6 (f 0) (k) (l.flatMap Ak.C) := h9
          obtain ⟨v9, e9⟩ : ∃ v, v = f 0 := ⟨_, rfl⟩
          rw [← e9] at h9 q9
          clear e9
          clear dd9
          have dd28 := hdep ⟨19, .data⟩ (by simp) rfl
          have q28 := dd28.2 _ rfl _ rfl
          have h28 := hJ.vals 19 dd28.1 (fun c hc => by have hc : some 20 = some c := hc; cases hc; exact hun)
          rw [hT] at h28
          have h28 : (fun v w => ∃ x : Ak, Many w 72 1 x.C v ∧ x.Ok w) (f 19) w2 := h28
          obtain ⟨x28, mm28, n28⟩ := h28
          obtain ⟨adx, ex, nx, rx⟩ := mm28.rd (sz := 6) rfl
          rw [ex] at q28
          clear dd28
          have hl0 := (hdep ⟨0, .data⟩ (by simp) rfl).1
          have hord : ∀ x ∈ ([(20, 0), (21, 20)] : List (Nat × Nat)), x.1 = 20 → listed.getD x.2 false = true := (by intro x hx he; simp only [List.mem_cons, List.not_mem_nil, or_false] at hx; rcases hx with rfl | rfl; all_goals first | (exact absurd he (by decide)) | assumption)
          refine wp_rd (.tmp 9) (.tmp 28) 68 72 (Ak.mk 0 0 zeroLt).V 6 64 rfl Try.underlying68 Try.infoAk rfl (by decide) w.heap.size _ _ _ q9 h9 hJ.lo adx 1 1 _ q28 rx (Nat.le_refl _) (fun h => absurd (nx h) (by decide)) (fun u hu => aflat_one [x28] u (by simpa using hu)) (by omega) (by omega) (fun v' w' r1 r2 => hK _ _ (hJ.next HTY (by rw [hls]; decide) [72] (by decide) r2 (by rw [hT]; exact ⟨l ++ [x28], ARow.app (V0.out.ext (hJ.pre hun)) r2 (by simpa using r1) rfl (fun x hx => by rw [List.mem_singleton.1 hx]; exact n28)⟩) ?_ hord (fun h => absurd h (by rw [set_new (by rw [hls]; decide)]; decide))))
          intro j hj hin hl
          have hm := mem_tyss hin
          rw [show (List.range (List.length ([[72], [3], [], [], [3], [], [], [], [], [], [], [], [], [], [], [], [5], [5], [5], [72, 5], [72, 5], [72, 5]] : List (List Nat)))).filter (fun j => (List.getD ([[72], [3], [], [], [3], [], [], [], [], [], [], [], [], [], [], [], [5], [5], [5], [72, 5], [72, 5], [72, 5]] : List (List Nat)) j []).contains 72) = [0, 19, 20, 21] from by decide] at hm
          simp only [List.mem_cons, List.not_mem_nil, or_false] at hm
          rcases hm with rfl | rfl | rfl | rfl
          · exact ⟨20, rfl, Or.inl rfl⟩
          · exact ⟨20, rfl, Or.inl rfl⟩
          · exact absurd rfl hj
          · exact absurd (hJ.ord (21, 20) (by simp) hl) (by rw [hun]; decide)
        · rw [if_pos (by rfl)]
          intro K hK
          have dd29 := hdep ⟨20, .data⟩ (by simp) rfl
          have q29 := dd29.2 _ rfl _ rfl
          have h29 := hJ.vals 20 dd29.1 (fun c hc => by have hc : none = some c := hc; cases hc)
          rw [hT] at h29
          have h29 : (fun vv ww => ∃ l, ARow ww w.heap.size vv (k + 1) l) (f 20) w2 := h29
          clear dd29
          have hl20 := (hdep ⟨20, .data⟩ (by simp) rfl).1
          have hord : ∀ x ∈ ([(20, 0), (21, 20)] : List (Nat × Nat)), x.1 = 21 → listed.getD x.2 false = true := (by intro x hx he; simp only [List.mem_cons, List.not_mem_nil, or_false] at hx; rcases hx with rfl | rfl; all_goals first | (exact absurd he (by decide)) | assumption)
          rw [Array.getD_eq_getD_getElem?] at q29
          clear hsz hdep hout hlat
          go_simp
          exact hK _ _ (hJ.plain HTY (by rw [hls]; decide) (Ex.refl _) (by rw [hT]; exact h29) hord)
      · intro listed f w2 hall hJ
        have o21 := hJ.vals 21 (hall 21 (by simp)) (fun c hc => by have hc : none = some c := hc; cases hc)
        rw [hT] at o21
        have o21 : (fun vv ww => ∃ l, ARow ww w.heap.size vv (k + 1) l) (f 21) w2 := o21
        have xk := hJ.ext
        simp only [putAll, Act.put, List.setIfInBounds_toArray, List.set_cons_zero, List.set_cons_succ, Nat.zero_add, Nat.reduceAdd]
        generalize f 21 = nv at o21 ⊢
        clear hJ hall hT HTY
        generalize f 0 = y0
        generalize f 1 = y1
        generalize f 2 = y2
        generalize f 3 = y3
        generalize f 4 = y4
        generalize f 5 = y5
        generalize f 6 = y6
        generalize f 7 = y7
        generalize f 8 = y8
        generalize f 9 = y9
        generalize f 10 = y10
        generalize f 11 = y11
        generalize f 12 = y12
        generalize f 13 = y13
        generalize f 14 = y14
        generalize f 15 = y15
        generalize f 16 = y16
        generalize f 17 = y17
        generalize f 18 = y18
        generalize f 19 = y19
        generalize f 20 = y20
        have V1 := Lib.hid o21
        have BW2 : Hid (Ex w w2) := Lib.hid (Below.trans (show Below w.heap.size w wr from BW.out) xk.below)
        clear o21 xk V0 BW
        go_wp2_with (first | (with_reducible refine stop_load (t := 70) ?_) | (with_reducible refine stop_store (t := 70) ?_) | (with_reducible refine stop_build (t := 70) ?_) | (with_reducible refine stop_load (t := 72) ?_) | (with_reducible refine stop_store (t := 72) ?_) | (with_reducible refine stop_build (t := 72) ?_) | (with_reducible refine stop_bs (t := 68) ?_) | (with_reducible refine stop_app ?_) | (with_reducible refine stop_mk ?_))
        (first | (refine ⟨?_, ?measure⟩; (repeat apply Exists.intro); refine ⟨?rel, rfl⟩) | refine ⟨?rel, ?measure⟩)
        case rel => exact ⟨k + 1, by omega, by go_num, V1, BW2⟩
        case measure => simp [intOf]; omega
    · obtain rfl : k = 200 := by omega
      go_wp2_with (first | (with_reducible refine stop_load (t := 70) ?_) | (with_reducible refine stop_store (t := 70) ?_) | (with_reducible refine stop_build (t := 70) ?_) | (with_reducible refine stop_load (t := 72) ?_) | (with_reducible refine stop_store (t := 72) ?_) | (with_reducible refine stop_build (t := 72) ?_) | (with_reducible refine stop_bs (t := 68) ?_) | (with_reducible refine stop_app ?_) | (with_reducible refine stop_mk ?_))
      go_loopw [1, 3] (fun v i wr => ∃ k n : Nat, k ≤ 80 ∧ n ≤ 200 + 2 * k ∧ i = .int .i64 k ∧ Hid (∃ l, ARow wr w.heap.size v n l) ∧ Hid (Ex w wr)) (fun _ i _ => 80 - (intOf i).toNat)
      case atStart => exact ⟨0, 200, by omega, by omega, rfl, V0, BW⟩
      case round =>
        clear V0 BW
        obtain ⟨k, n, hk2, hn, rfl, V0, BW⟩ := hrel
        obtain ⟨l, hl⟩ := V0.out
        clear V0
        have V0 := Lib.hid hl
        clear hl
        by_cases hlt2 : k < 80
        · have q1 : (k : Int) < 80 := by omega
          go_wp2_with (first | (with_reducible refine stop_load (t := 70) ?_) | (with_reducible refine stop_store (t := 70) ?_) | (with_reducible refine stop_build (t := 70) ?_) | (with_reducible refine stop_load (t := 72) ?_) | (with_reducible refine stop_store (t := 72) ?_) | (with_reducible refine stop_build (t := 72) ?_) | (with_reducible refine stop_bs (t := 68) ?_) | (with_reducible refine stop_app ?_) | (with_reducible refine stop_mk ?_))
          (with_reducible refine ⟨?_⟩); (with_reducible refine at_any ?_ ?_); (focus go_simp); refine fun K0 hK => wp_build _ _ rfl _ (ltn_built k) (hK _ _ ?_)
          clear hK
          go_wp2_with (first | (with_reducible refine stop_load (t := 70) ?_) | (with_reducible refine stop_store (t := 70) ?_) | (with_reducible refine stop_build (t := 70) ?_) | (with_reducible refine stop_load (t := 72) ?_) | (with_reducible refine stop_store (t := 72) ?_) | (with_reducible refine stop_build (t := 72) ?_) | (with_reducible refine stop_bs (t := 68) ?_) | (with_reducible refine stop_app ?_) | (with_reducible refine stop_mk ?_))
          (with_reducible refine ⟨?_⟩); (with_reducible refine at_any ?_ ?_); (focus go_simp); refine fun K0 hK => wp_build _ _ rfl _ (built_ak1 (ltn k)) (hK _ _ ?_)
          clear hK
          go_wp2_with (first | (with_reducible refine stop_load (t := 70) ?_) | (with_reducible refine stop_store (t := 70) ?_) | (with_reducible refine stop_build (t := 70) ?_) | (with_reducible refine stop_load (t := 72) ?_) | (with_reducible refine stop_store (t := 72) ?_) | (with_reducible refine stop_build (t := 72) ?_) | (with_reducible refine stop_bs (t := 68) ?_) | (with_reducible refine stop_app ?_) | (with_reducible refine stop_mk ?_))
          (with_reducible refine ⟨?_⟩); (with_reducible refine at_any ?_ ?_); (focus go_simp); refine fun K0 hK => wp_build _ _ rfl _ (built_ak2 k) (hK _ _ ?_)
          clear hK
          go_wp2_with (first | (with_reducible refine stop_load (t := 70) ?_) | (with_reducible refine stop_store (t := 70) ?_) | (with_reducible refine stop_build (t := 70) ?_) | (with_reducible refine stop_load (t := 72) ?_) | (with_reducible refine stop_store (t := 72) ?_) | (with_reducible refine stop_build (t := 72) ?_) | (with_reducible refine stop_bs (t := 68) ?_) | (with_reducible refine stop_app ?_) | (with_reducible refine stop_mk ?_))
          (with_reducible refine ⟨?_⟩); (with_reducible refine at_any ?_ ?_); (focus go_simp); refine fun K0 hK => wp_bsa2 _ _ (Ak.mk 0 0 (ltn k)) (Ak.mk 6 k zeroLt) rfl rfl rfl (hK _ _ ?_)
          clear hK
          obtain ⟨xs, hxs⟩ : ∃ xs, xs = [Ak.mk 0 0 (ltn k), Ak.mk 6 k zeroLt] := ⟨_, rfl⟩
          have NB : Hid (Bk (wr.alloc (.cells ((Ak.mk 0 0 (ltn k)).C ++ (Ak.mk 6 k zeroLt).C).toArray 72)) wr.heap.size 72 (xs.flatMap Ak.C).toArray) := Lib.hid (by rw [hxs]; exact Bk.new rfl _ _)
          have XA := Lib.hid (Ex.alloc wr (.cells ((Ak.mk 0 0 (ltn k)).C ++ (Ak.mk 6 k zeroLt).C).toArray 72))
          generalize hw4 : wr.alloc (.cells ((Ak.mk 0 0 (ltn k)).C ++ (Ak.mk 6 k zeroLt).C).toArray 72) = w4 at *
          have HOK : Hid (∀ x ∈ xs, x.Ok w4) := Lib.hid (by
            intro x hx
            rw [hxs] at hx
            simp only [List.mem_cons, List.not_mem_nil, or_false] at hx
            rcases hx with rfl | rfl
            · exact ⟨⟨by show (_ : Int) ≤ 0; omega, by show (0 : Int) ≤ _; omega⟩, ⟨by show (_ : Int) ≤ 0; omega, by show (0 : Int) ≤ _; omega⟩, ⟨ltn_ok k (by omega), nilB_pn _ _⟩, by show 0 ≤ 10000; decide⟩
            · exact ⟨⟨by show (_ : Int) ≤ 6; omega, by show (6 : Int) ≤ _; omega⟩, ⟨by show (_ : Int) ≤ (k : Int); omega, by show (k : Int) ≤ _; omega⟩, ⟨zeroLt_ok, nilB_pn _ _⟩, by show 0 ≤ 10000; decide⟩)
          have HXL := Lib.hid (show xs.length = 2 by rw [hxs]; rfl)
          have HRD := Lib.hid (Many.rd (n := 2) (sz := 6) ⟨_, rfl, NB.out⟩ (by rw [hxs]; rfl))
          obtain ⟨g, hg⟩ : ∃ g, g = wr.heap.size := ⟨_, rfl⟩
          rw [← hg] at HRD ⊢
          clear hw4 hg hxs NB
          replace V0 := Lib.hid (V0.out.ext XA.out)
          replace BW := Lib.hid (Ex.trans BW.out XA.out)
          obtain ⟨adx, ex, nx, rx⟩ := HRD.out
          cases ex
          have RX := Lib.hid rx
          clear rx nx XA HRD
          go_wp2_with (first | (with_reducible refine stop_load (t := 70) ?_) | (with_reducible refine stop_store (t := 70) ?_) | (with_reducible refine stop_build (t := 70) ?_) | (with_reducible refine stop_load (t := 72) ?_) | (with_reducible refine stop_store (t := 72) ?_) | (with_reducible refine stop_build (t := 72) ?_) | (with_reducible refine stop_bs (t := 68) ?_) | (with_reducible refine stop_app ?_) | (with_reducible refine stop_mk ?_))
          (with_reducible refine ⟨?_⟩); (with_reducible refine at_any ?_ ?_); (focus go_simp); refine fun K0 hK => wp_rd _ _ 68 72 (Ak.mk 0 0 zeroLt).V 6 64 rfl Try.underlying68 Try.infoAk rfl (by decide) w.heap.size n _ _ rfl V0.out.row BW.out.sz _ 2 2 _ rfl RX.out (Nat.le_refl _) (fun h => by cases h) (aflat_one xs) (by omega) (by omega) (fun v5 w5 r1 r2 => hK _ _ ?_)
          clear hK
          have V1 : Hid (∃ l, ARow w5 w.heap.size v5 (n + 2) l) := Lib.hid ⟨_, ARow.app V0.out r2 r1 HXL.out HOK.out⟩
          replace BW := Lib.hid (show Ex w w5 from Below.trans (show Below w.heap.size w _ from BW.out) r2.below)
          clear r1 r2 V0
          go_wp2_with (first | (with_reducible refine stop_load (t := 70) ?_) | (with_reducible refine stop_store (t := 70) ?_) | (with_reducible refine stop_build (t := 70) ?_) | (with_reducible refine stop_load (t := 72) ?_) | (with_reducible refine stop_store (t := 72) ?_) | (with_reducible refine stop_build (t := 72) ?_) | (with_reducible refine stop_bs (t := 68) ?_) | (with_reducible refine stop_app ?_) | (with_reducible refine stop_mk ?_))
          (first | (refine ⟨?_, ?measure⟩; (repeat apply Exists.intro); refine ⟨?rel, rfl⟩) | refine ⟨?rel, ?measure⟩)
          case rel => exact ⟨k + 1, n + 2, by omega, by omega, by go_num, V1, BW⟩
          case measure => simp [intOf]; omega
        · have q1 : ¬ (k : Int) < 80 := by omega
          go_wp2_with (first | (with_reducible refine stop_load (t := 70) ?_) | (with_reducible refine stop_store (t := 70) ?_) | (with_reducible refine stop_build (t := 70) ?_) | (with_reducible refine stop_load (t := 72) ?_) | (with_reducible refine stop_store (t := 72) ?_) | (with_reducible refine stop_build (t := 72) ?_) | (with_reducible refine stop_bs (t := 68) ?_) | (with_reducible refine stop_app ?_) | (with_reducible refine stop_mk ?_))
          refine (pnew_any wr).mono ?_
          rintro e w1 ⟨O, rfl, hO, hof, xx⟩
          have HOB := Lib.hid (Nat.le_trans BW.out.sz hO)
          have HOF := Lib.hid hof
          replace BW := Lib.hid (Ex.trans BW.out xx)
          have VI := (V0.out.ext xx).inn
          obtain ⟨ad, cap, hvv, hap⟩ := VI
          subst hvv
          have HAP := Lib.hid hap
          have HLN := Lib.hid V0.out.len
          clear hO hof xx hap V0
          go_wp2_with (first | (with_reducible refine stop_load (t := 70) ?_) | (with_reducible refine stop_store (t := 70) ?_) | (with_reducible refine stop_build (t := 70) ?_) | (with_reducible refine stop_load (t := 72) ?_) | (with_reducible refine stop_store (t := 72) ?_) | (with_reducible refine stop_build (t := 72) ?_) | (with_reducible refine stop_bs (t := 68) ?_) | (with_reducible refine stop_app ?_) | (with_reducible refine stop_mk ?_))
          refine (play21 ad cap l (by rw [HLN.out]; omega) 400 w1 HAP.out).mono ?_
          rintro e w2 ⟨rfl, xx⟩
          replace BW := Lib.hid (Ex.trans BW.out xx)
          replace HOF := Lib.hid (HOF.out.ext xx)
          clear xx HAP
          go_wp2_with (first | (with_reducible refine stop_load (t := 70) ?_) | (with_reducible refine stop_store (t := 70) ?_) | (with_reducible refine stop_build (t := 70) ?_) | (with_reducible refine stop_load (t := 72) ?_) | (with_reducible refine stop_store (t := 72) ?_) | (with_reducible refine stop_build (t := 72) ?_) | (with_reducible refine stop_bs (t := 68) ?_) | (with_reducible refine stop_app ?_) | (with_reducible refine stop_mk ?_))
          (with_reducible refine ⟨?_⟩); (with_reducible refine at_any ?_ ?_); (focus go_simp); refine fun K0 hK => wp_mkP _ _ rfl 8192 rfl rfl (by decide) (fun wm8192 hm x3 => hK _ _ ?_)
          clear hK
          obtain ⟨gm, hgm, hbm⟩ := hm
          replace BW := Lib.hid (Ex.trans BW.out x3)
          replace HOF := Lib.hid (HOF.out.ext x3)
          have PB := Lib.hid (many_pn (n := 8192) hbm List.length_replicate)
          rw [hgm]
          clear hgm hbm x3
          go_wp2_with (first | (with_reducible refine stop_load (t := 70) ?_) | (with_reducible refine stop_store (t := 70) ?_) | (with_reducible refine stop_build (t := 70) ?_) | (with_reducible refine stop_load (t := 72) ?_) | (with_reducible refine stop_store (t := 72) ?_) | (with_reducible refine stop_build (t := 72) ?_) | (with_reducible refine stop_bs (t := 68) ?_) | (with_reducible refine stop_app ?_) | (with_reducible refine stop_mk ?_))
          (with_reducible refine ⟨?_⟩); (with_reducible refine at_any ?_ ?_); (focus go_simp); refine fun K0 hK => wp_build _ _ rfl _ (built_pb 8192 gm) (hK _ _ ?_)
          clear hK
          obtain ⟨za, hz⟩ : ∃ z : Lt, z = Lt.mk 0 0 0 ⟨some ⟨gm, 0, none⟩, 8192, List.replicate 8192 0⟩ := ⟨_, rfl⟩
          have HZ : Hid (za.Ok ∧ za.bs.In wm8192 wm8192.heap.size ∧ za.bs.l.length = 8192) := Lib.hid (by rw [hz]; exact ⟨⟨by show (_ : Int) ≤ 0; omega, by show (0 : Int) ≤ _; omega, by show (_ : Int) ≤ 0; omega, by show (0 : Int) ≤ _; omega, by show (_ : Int) ≤ 0; omega, by show (0 : Int) ≤ _; omega⟩, PB.out.1, List.length_replicate⟩)
          rw [show Value.agg (Lt.mk 0 0 0 ⟨some ⟨gm, 0, none⟩, 8192, List.replicate 8192 0⟩).C.toArray = za.V from by rw [hz]; rfl]
          clear hz PB
          go_wp2_with (first | (with_reducible refine stop_load (t := 70) ?_) | (with_reducible refine stop_store (t := 70) ?_) | (with_reducible refine stop_build (t := 70) ?_) | (with_reducible refine stop_load (t := 72) ?_) | (with_reducible refine stop_store (t := 72) ?_) | (with_reducible refine stop_build (t := 72) ?_) | (with_reducible refine stop_bs (t := 68) ?_) | (with_reducible refine stop_app ?_) | (with_reducible refine stop_mk ?_))
          refine (put_any O [] za wm8192 HOF.out HZ.out.1 HZ.out.2.1 (by rw [HZ.out.2.2]; decide)).mono ?_
          rw [show canPut ([] : List (Bool × Lc)).length za.bs.l.length = true from by rw [HZ.out.2.2]; rfl]
          rintro e w7 ⟨rfl, hof, hft⟩
          replace BW := Lib.hid (show Ex w w7 from Below.trans (show Below w.heap.size w _ from BW.out) (hft.below.mono HOB.out))
          rw [if_pos rfl] at hof
          have HOF := Lib.hid hof
          clear hof hft HZ
          go_wp2_with (first | (with_reducible refine stop_load (t := 70) ?_) | (with_reducible refine stop_store (t := 70) ?_) | (with_reducible refine stop_build (t := 70) ?_) | (with_reducible refine stop_load (t := 72) ?_) | (with_reducible refine stop_store (t := 72) ?_) | (with_reducible refine stop_build (t := 72) ?_) | (with_reducible refine stop_bs (t := 68) ?_) | (with_reducible refine stop_app ?_) | (with_reducible refine stop_mk ?_))
          (with_reducible refine ⟨?_⟩); (with_reducible refine at_any ?_ ?_); (focus go_simp); refine fun K0 hK => wp_mkP _ _ rfl 8193 rfl rfl (by decide) (fun wm8193 hm x3 => hK _ _ ?_)
          clear hK
          obtain ⟨gm, hgm, hbm⟩ := hm
          replace BW := Lib.hid (Ex.trans BW.out x3)
          replace HOF := Lib.hid (HOF.out.ext x3)
          have PB := Lib.hid (many_pn (n := 8193) hbm List.length_replicate)
          rw [hgm]
          clear hgm hbm x3
          go_wp2_with (first | (with_reducible refine stop_load (t := 70) ?_) | (with_reducible refine stop_store (t := 70) ?_) | (with_reducible refine stop_build (t := 70) ?_) | (with_reducible refine stop_load (t := 72) ?_) | (with_reducible refine stop_store (t := 72) ?_) | (with_reducible refine stop_build (t := 72) ?_) | (with_reducible refine stop_bs (t := 68) ?_) | (with_reducible refine stop_app ?_) | (with_reducible refine stop_mk ?_))
          (with_reducible refine ⟨?_⟩); (with_reducible refine at_any ?_ ?_); (focus go_simp); refine fun K0 hK => wp_build _ _ rfl _ (built_pb 8193 gm) (hK _ _ ?_)
          clear hK
          obtain ⟨zb, hz⟩ : ∃ z : Lt, z = Lt.mk 0 0 0 ⟨some ⟨gm, 0, none⟩, 8193, List.replicate 8193 0⟩ := ⟨_, rfl⟩
          have HZ : Hid (zb.Ok ∧ zb.bs.In wm8193 wm8193.heap.size ∧ zb.bs.l.length = 8193) := Lib.hid (by rw [hz]; exact ⟨⟨by show (_ : Int) ≤ 0; omega, by show (0 : Int) ≤ _; omega, by show (_ : Int) ≤ 0; omega, by show (0 : Int) ≤ _; omega, by show (_ : Int) ≤ 0; omega, by show (0 : Int) ≤ _; omega⟩, PB.out.1, List.length_replicate⟩)
          rw [show Value.agg (Lt.mk 0 0 0 ⟨some ⟨gm, 0, none⟩, 8193, List.replicate 8193 0⟩).C.toArray = zb.V from by rw [hz]; rfl]
          clear hz PB
          go_wp2_with (first | (with_reducible refine stop_load (t := 70) ?_) | (with_reducible refine stop_store (t := 70) ?_) | (with_reducible refine stop_build (t := 70) ?_) | (with_reducible refine stop_load (t := 72) ?_) | (with_reducible refine stop_store (t := 72) ?_) | (with_reducible refine stop_build (t := 72) ?_) | (with_reducible refine stop_bs (t := 68) ?_) | (with_reducible refine stop_app ?_) | (with_reducible refine stop_mk ?_))
          refine (put_any O _ zb wm8193 HOF.out HZ.out.1 HZ.out.2.1 (by rw [HZ.out.2.2]; decide)).mono ?_
          rw [HZ.out.2.2, show canPut (List.length ([] ++ [((false : Bool), za.ct)] : List (Bool × Lc))) 8193 = false from rfl]
          rintro e w8 ⟨rfl, hof, hft⟩
          replace BW := Lib.hid (show Ex w w8 from Below.trans (show Below w.heap.size w _ from BW.out) (hft.below.mono HOB.out))
          clear hof hft HZ
          go_wp2_with (first | (with_reducible refine stop_load (t := 70) ?_) | (with_reducible refine stop_store (t := 70) ?_) | (with_reducible refine stop_build (t := 70) ?_) | (with_reducible refine stop_load (t := 72) ?_) | (with_reducible refine stop_store (t := 72) ?_) | (with_reducible refine stop_build (t := 72) ?_) | (with_reducible refine stop_bs (t := 68) ?_) | (with_reducible refine stop_app ?_) | (with_reducible refine stop_mk ?_))
          refine (known21 w8).mono ?_
          rintro e w9 ⟨rfl, xx⟩
          replace BW := Lib.hid (Ex.trans BW.out xx)
          clear xx
          go_wp2_with fail
          go_ret
          exact ⟨rfl, BW.out⟩
end Go.Proofs.Ytedljddjmojeeaa
