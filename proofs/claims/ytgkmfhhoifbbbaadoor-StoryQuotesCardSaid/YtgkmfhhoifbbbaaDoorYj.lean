/- The program's read of a line whose step has numbers alone. -/
import Derived.Test.YtgkmfhhoifbbbaaDoorYi
namespace Go.Proofs.YtgkmfhhoifbbbaaDoor
open Go Go.RowKit
structure CS where
  r : List UInt8
  x : Bool
  cs : List Value
def numStep (S : CS) (o : Nat) : CS := ⟨dw (blankR S.r), S.x || !isB S.r || (numF (tw (blankR S.r))).isNone, S.cs.set o (.int .i64 (((numF (tw (blankR S.r))).getD 0 : Nat) : Int))⟩
def numSteps (S : CS) (l : List Nat) : CS := l.foldl numStep S
def z16 : List Value := List.replicate 16 (.int .u8 0)
/-- a step that says nothing, of a kind -/
def stepZ (k : Int) : List Value := [.int .i64 k, .int .i64 0, .int .i64 0, .int .i64 0, .int .i64 0, .int .i64 0, .int .i64 0, .int .i64 0, .int .u8 0, .int .u8 0, .int .u8 0, .int .u8 0] ++ z16 ++ [.slice none 0 0, .int .i64 0] ++ z16 ++ z16 ++ [.int .i64 0, .int .u64 0, .slice none 0 0, .string ⟨#[]⟩, .string ⟨#[]⟩]
theorem stepZ_len (k : Int) : (stepZ k).length = 67 := rfl
theorem stepZ_one : (stepZ 0).toArray.all (·.oneCell') = true := by kernel_rfl
def OneC (l : List Value) : Prop := ∀ v ∈ l, v.oneCell' = true
theorem OneC.arr {l : List Value} (h : OneC l) : l.toArray.all (·.oneCell') = true := by
  rw [List.all_toArray, List.all_eq_true]; exact h
theorem OneC.set {l : List Value} (h : OneC l) (o : Nat) {v : Value} (hv : v.oneCell' = true) : OneC (l.set o v) := by
  intro x hx
  rcases List.mem_or_eq_of_mem_set hx with h1 | rfl
  · exact h x h1
  · exact hv
theorem stepZ_onec (k : Int) : OneC (stepZ k) := by
  have e : stepZ k = .int .i64 k :: (stepZ 0).tail := rfl
  rw [e]
  intro v hv
  rcases List.mem_cons.1 hv with rfl | hv
  · rfl
  · have h := stepZ_one
    rw [List.all_toArray, List.all_eq_true] at h
    exact h v (List.mem_of_mem_tail hv)
theorem zeroStep : Tryd.zeroCells37 = (stepZ 0).toArray := rfl
theorem sizeStep : (Tryd.prog.info? 37).map (·.size) = some 67 := by kernel_rfl
def kindF (t : List UInt8) : Int := verbI verbZ (32 :: t)
theorem res_row2 {fn : Func} {a b : Tmp} {t : TypeId} (h : fn.results = #[.cell a t, .tmp b]) (tmps : Array Value) (w : World) (g : Nat) (ha : tmps.getD a undef = .pointer (some ⟨g, 0, none⟩)) {C : List Value} {dd : TypeDesc} (hB : Bk w g t C.toArray) (hu : Tryd.prog.underlying t = some dd) (hr : dd.isRow = true) (hs : (Tryd.prog.info? t).map (·.size) = some C.length) :
  (results fn tmps).run Tryd.prog w = .ok (.tuple #[.agg C.toArray, tmps.getD b undef]) w := by
 have ha' : tmps[a]?.getD undef = .pointer (some ⟨g, 0, none⟩) := by simpa using ha
 simp [results, h, ha', asAddr, run_loadVar_mid w g 0 t C dd hB.range hu hr hs, Sem.run_bind]
theorem Tk.bk {b g : Nat} {w w' : World} {t : TypeId} {cs : Array Value} (h : Tk b w w') (hb : Bk w g t cs) (hne : g ≠ b) : Bk w' g t cs := (h.block g hb.lt hne).trans hb
theorem LN.far {b g i : Nat} {v : Value} {r : List UInt8} {x : Bool} {w : World} (h : LN b r x w) (hb : b ≠ g) : LN b r x (w.setCell ⟨g, i, none⟩ v) := (Below.heap_setCell _ _ _ _ hb).trans h
/-- the blocks of a reading: what is told, the line, the step -/
structure RD (B : Nat) (w W : World) (r : List UInt8) (x : Bool) (cs : List Value) : Prop where
  bel : Below B w W
  res : Bk W B 37 (stepZ 0).toArray
  ln : LN (B + 1) r x W
  st : Bk W (B + 1 + 1) 37 cs.toArray
theorem rd_start (t : List UInt8) (w W : World) (h : W = (((w.alloc (.cells Tryd.zeroCells37 37)).alloc (.cells #[.string (⟨#[32]⟩ ++ ⟨t.toArray⟩), .bool false] 83)).alloc (.cells Tryd.zeroCells37 37)).alloc (.cells (verbZ.map Value.string).toArray 9)) :
    RD w.heap.size w W (32 :: t) false (stepZ 0) ∧ Bk W (w.heap.size + 1 + 1 + 1) 9 (verbZ.map Value.string).toArray := by
  subst h
  rw [zeroStep]
  have e : (⟨#[32]⟩ : ByteArray) ++ ⟨t.toArray⟩ = ⟨(32 :: t).toArray⟩ := by apply ByteArray.ext; simp
  rw [e]
  have b0 : Below w.heap.size w (w.alloc (.cells (stepZ 0).toArray 37)) := (Below.refl _ _).alloc (Nat.le_refl _) _
  have b1 := b0.alloc (by simp) (.cells #[.string ⟨(32 :: t).toArray⟩, .bool false] 83)
  have b2 := b1.alloc (by simp; omega) (.cells (stepZ 0).toArray 37)
  have b3 := b2.alloc (by simp; omega) (.cells (verbZ.map Value.string).toArray 9)
  have k0 : Bk _ w.heap.size 37 (stepZ 0).toArray := (((Bk.new (w := w) rfl 37 (stepZ 0).toArray).more (.cells #[.string ⟨(32 :: t).toArray⟩, .bool false] 83)).more (.cells (stepZ 0).toArray 37)).more (.cells (verbZ.map Value.string).toArray 9)
  have k1 : Bk _ (w.heap.size + 1) 83 #[.string ⟨(32 :: t).toArray⟩, .bool false] := ((Bk.new (w := w.alloc (.cells (stepZ 0).toArray 37)) (by simp) 83 #[.string ⟨(32 :: t).toArray⟩, .bool false]).more (.cells (stepZ 0).toArray 37)).more (.cells (verbZ.map Value.string).toArray 9)
  have k2 : Bk _ (w.heap.size + 1 + 1) 37 (stepZ 0).toArray := (Bk.new (w := (w.alloc (.cells (stepZ 0).toArray 37)).alloc (.cells #[.string ⟨(32 :: t).toArray⟩, .bool false] 83)) (by simp) 37 (stepZ 0).toArray).more (.cells (verbZ.map Value.string).toArray 9)
  exact ⟨⟨b3, k0, k1, k2⟩, Bk.new (by simp) _ _⟩
theorem verbZ_cell {w : World} {g : Nat} (h : Bk w g 9 (verbZ.map Value.string).toArray) (j : Nat) (hj : j < verbZ.length) : w.cell? ⟨g, 0 + j, none⟩ = some (.string (verbZ.getD j ByteArray.empty)) := by
  rw [h.cell, Nat.zero_add]
  simp [List.getD, hj]
theorem offC_cell {w : World} {g s : Nat} {l : List Nat} (h : Bk w g 88 (offC s l)) (j : Nat) (hj : j < l.length) : w.cell? ⟨g, j, none⟩ = some (.pointer (some ⟨s, l[j], none⟩)) := by
  rw [h.cell]
  simp [offC, hj]
theorem off_open {s : Nat} {l : List Nat} {v : Value} {w w' : World} (h : OffV s l v w w') :
    Below w.heap.size w w' ∧ ∃ ad, v = .slice ad l.length l.length ∧ (l ≠ [] → ad = some ⟨w.heap.size, 0, none⟩ ∧ Bk w' w.heap.size 88 (offC s l)) := by
  obtain ⟨hb, h⟩ := h
  refine ⟨hb, ?_⟩
  rcases h with ⟨rfl, rfl⟩ | ⟨h1, rfl, h3⟩
  · exact ⟨none, rfl, fun e => absurd rfl e⟩
  · exact ⟨_, rfl, fun _ => ⟨rfl, h3⟩⟩
theorem set_cells (cs : List Value) (o : Nat) (v : Value) : cs.toArray.setIfInBounds o v = (cs.set o v).toArray := by simp
theorem numsL_ok (k : Nat) : ∀ o ∈ numsL k, 1 ≤ o ∧ o < 7 := by
  intro o ho
  unfold numsL at ho
  repeat' split at ho
  all_goals (simp at ho; try omega)
theorem numsL_len (k : Nat) : (numsL k).length ≤ 3 := by
  unfold numsL
  repeat' split
  all_goals simp
theorem dw_len (l : List UInt8) : (dw l).length ≤ l.length ∧ (tw l).length ≤ l.length := by
  have := congrArg List.length (tw_dw l)
  rw [List.length_append] at this
  omega
theorem blank_len (l : List UInt8) : (blankR l).length ≤ l.length := by
  unfold blankR Lib.trimPrefix
  split
  · simp
  · exact Nat.le_refl _
set_option maxHeartbeats 8000000 in
set_option maxRecDepth 100000 in
theorem read_any (t : List UInt8) (hs : t.length ≤ 1099511627776) (k : Nat) (hk : k ≤ 14) (hk1 : k ≠ 1) (hk5 : k ≠ 5) (hv : (if kindF t < 0 then 0 else 1 + kindF t) = (k : Int)) (S : CS) (hS : S = numSteps ⟨dw t, decide (kindF t < 0), stepZ k⟩ (numsL k)) (w : World) :
    Calls Tryd.prog 32 #[.string ⟨t.toArray⟩] w fun e w' =>
      e = .returned (if S.x = false ∧ S.r = [] then .tuple #[.agg S.cs.toArray, .bool true] else .tuple #[.agg (stepZ 0).toArray, .bool false]) ∧ Below w.heap.size w w' := by
  obtain ⟨RV, hRV⟩ : ∃ RV : Value, RV = (if S.x = false ∧ S.r = [] then .tuple #[.agg S.cs.toArray, .bool true] else .tuple #[.agg (stepZ 0).toArray, .bool false]) := ⟨_, rfl⟩
  rw [← hRV]
  have HRV := Lib.hid hRV
  clear hRV
  go_enter Tryd.func32, Tryd.ntmps32
  go_wp2_with (go_at_call 10; refine (verbs_any _).mono ?_; rintro e w1 ⟨rfl, h1⟩; obtain ⟨R1, V1⟩ := rd_start t w w1 h1; clear h1)
  have hkb : kindF t < 1000 := by
    by_cases c : kindF t < 0
    · omega
    · rw [if_neg c] at hv; omega
  have hsz1 := V1.lt
  refine (verb_any (w.heap.size + 1) (w.heap.size + 1 + 1 + 1) verbZ 1 (by omega) (32 :: t) false w1 R1.ln (by decide) hsz1 (by omega) (verbZ_cell V1) hkb).mono ?_
  rintro e w2 ⟨rfl, L2, K2⟩
  have hv' : (if verbI verbZ (32 :: t) < 0 then (0 : Int) else ((1 : Nat) : Int) + verbI verbZ (32 :: t)) = (k : Int) := hv
  rw [hv']
  have L2' : LN (w.heap.size + 1) (dw t) (decide (kindF t < 0)) w2 := L2
  clear L2 hv' hv
  have R2 := K2.bk R1.res (by omega)
  have T2 := K2.bk R1.st (by omega)
  have B2 := R1.bel.trans (K2.below (by omega) (by omega))
  have hsz2 : w.heap.size + 1 + 1 < w2.heap.size := T2.lt
  clear R1 V1 K2 hsz1 hkb
  obtain ⟨B, hB⟩ : ∃ B, B = w.heap.size := ⟨_, rfl⟩
  rw [← hB] at L2' R2 T2 B2 hsz2 ⊢
  have HB := Lib.hid hB
  clear hB
  have c0 : w2.cell? ⟨B + 1 + 1, 0, none⟩ = some (.int .i64 0) := by rw [T2.cell]; rfl
  have f0 := T2.fr 0
  obtain ⟨l, hl⟩ : ∃ l, l = numsL k := ⟨_, rfl⟩
  have hlo : ∀ o ∈ l, 1 ≤ o ∧ o < 7 := by rw [hl]; exact numsL_ok k
  have hll : l.length ≤ 3 := by rw [hl]; exact numsL_len k
  rw [← hl] at hS
  have hdt : (dw t).length ≤ 1099511627776 := by have := dw_len t; omega
  obtain ⟨S0, hS0⟩ : ∃ S0 : CS, S0 = ⟨dw t, decide (kindF t < 0), stepZ k⟩ := ⟨_, rfl⟩
  rw [← hS0] at hS
  have HS := Lib.hid hS
  have HL := Lib.hid hl
  have T3 : Bk (w2.setCell ⟨B + 1 + 1, 0, none⟩ (.int .i64 (k : Int))) (B + 1 + 1) 37 (stepZ k).toArray := T2.put 0 (.int .i64 (k : Int))
  have L3 : LN (B + 1) (dw t) (decide (kindF t < 0)) (w2.setCell ⟨B + 1 + 1, 0, none⟩ (.int .i64 (k : Int))) := L2'.far (by omega)
  have R3 : Bk (w2.setCell ⟨B + 1 + 1, 0, none⟩ (.int .i64 (k : Int))) B 37 (stepZ 0).toArray := R2.far (by omega)
  have B3 : Below B w (w2.setCell ⟨B + 1 + 1, 0, none⟩ (.int .i64 (k : Int))) := B2.setCell (p := ⟨B + 1 + 1, 0, none⟩) (by show B ≤ B + 1 + 1; omega) _
  have P := Lib.hid (And.intro T3 (And.intro L3 (And.intro R3 B3)))
  clear T3 L3 R3 B3 L2' R2 T2 B2 hS hl
  go_wp2_with (go_at_call 48; refine (numbers_any (B + 1 + 1) _ k hk _ P.out.1 rfl).mono ?_; rintro e w3 ⟨v, rfl, hv3⟩; obtain ⟨hb3, ad, rfl, had⟩ := off_open hv3; clear hv3)
  obtain ⟨T3, L3, R3, B3⟩ := P.out
  have hs3 : (w2.setCell ⟨B + 1 + 1, 0, none⟩ (.int .i64 (k : Int))).heap.size = w2.heap.size := World.size_setCell ..
  have T4 := T3.ext hb3
  have L4 := L3.kept hb3
  have R4 := R3.ext hb3
  have B4 : Below B w w3 := B3.trans (hb3.mono (by rw [hs3]; omega))
  have hz3 := hb3.size
  rw [hs3] at had hz3
  clear T3 L3 R3 B3 hb3 P c0 f0 hs3
  rw [← HL.out] at had
  have HAD := Lib.hid had
  clear had
  have hk0 : (stepZ k)[0]? = some (.int .i64 (k : Int)) := rfl
  rw [← HL.out]
  go_loopw [18] (fun i wr => ∃ (j : Nat) (T : CS), i = .int .i64 (j : Int) ∧ j ≤ l.length ∧ numSteps T (l.drop j) = S ∧ LN (B + 1) T.r T.x wr ∧ Bk wr (B + 1 + 1) 37 T.cs.toArray ∧ (T.cs.length = 67 ∧ OneC T.cs) ∧ T.cs[0]? = some (.int .i64 (k : Int)) ∧ T.r.length ≤ 1099511627776 ∧ Bk wr B 37 (stepZ 0).toArray ∧ Below B w wr ∧ (l ≠ [] → ad = some ⟨w2.heap.size, 0, none⟩ ∧ Bk wr w2.heap.size 88 (offC (B + 1 + 1) l)))
    (fun i _ => match i with | .int _ z => l.length - z.toNat | _ => 0)
  case atStart =>
    refine ⟨0, S0, rfl, by omega, HS.out.symm, ?_, ?_, ?_, ?_, ?_, R4, B4, HAD.out⟩
    · rw [hS0]; exact L4
    · rw [hS0]; exact T4
    · rw [hS0]; exact ⟨rfl, stepZ_onec _⟩
    · rw [hS0]; rfl
    · rw [hS0]; exact hdt
  case round =>
    obtain ⟨j, T, rfl, hj, hst, hL, hT, ⟨hT67, hT1⟩, hT0, hTr, hR, hBl, hA⟩ := hrel
    clear R4 B4 L4 T4 hS0 HS
    by_cases hlt : j < l.length
    · have i1 : (j : Int) < (l.length : Int) := by omega
      have hne : l ≠ [] := by intro e; rw [e] at hlt; simp at hlt
      obtain ⟨rfl, hP⟩ := hA hne
      have hdrop : l.drop j = l[j] :: l.drop (j + 1) := List.drop_eq_getElem_cons hlt
      have hcp := offC_cell hP j hlt
      obtain ⟨o, ho⟩ : ∃ o, o = l[j] := ⟨_, rfl⟩
      have ho1 := hlo l[j] (List.getElem_mem hlt)
      rw [← ho] at hdrop hcp ho1
      rw [hdrop] at hst
      have hst' : numSteps (numStep T o) (l.drop (j + 1)) = S := hst
      have HST := Lib.hid hst'
      have hnum := number_any (B + 1) T.r T.x wr hL (by have := blank_len T.r; have := dw_len (blankR T.r); omega)
      obtain ⟨u, hu⟩ : ∃ u, T.cs[o]? = some u := ⟨_, List.getElem?_eq_getElem (by omega)⟩
      obtain ⟨N, hN⟩ : ∃ N : Int, N = (((numF (tw (blankR T.r))).getD 0 : Nat) : Int) := ⟨_, rfl⟩
      rw [← hN] at hnum
      have HN := Lib.hid hN
      have HDR := Lib.hid hdrop
      have hszr : B + 1 + 1 < wr.heap.size := hT.lt
      have hszp := hP.lt
      clear hst hst' ho hN hdrop hA hlo
      go_wp2_with (go_at_call 49; refine hnum.mono ?_; rintro e w4 ⟨rfl, L4, K4⟩; have T4 := K4.bk hT (by omega); have c4 : w4.cell? ⟨B + 1 + 1, o, none⟩ = some u := (by rw [T4.cell]; simpa using hu); have f4 := T4.fr o)
      have R4 := (K4.bk hR (by omega)).far (b := B + 1 + 1) (i := o) (v := .int .i64 N) (by omega)
      have P4 := (K4.bk hP (by omega)).far (b := B + 1 + 1) (i := o) (v := .int .i64 N) (by omega)
      have B4 := (hBl.trans (K4.below (by omega) (by omega))).setCell (p := ⟨B + 1 + 1, o, none⟩) (by show B ≤ B + 1 + 1; omega) (.int .i64 N)
      have L5 : LN (B + 1) _ _ (w4.setCell ⟨B + 1 + 1, o, none⟩ (.int .i64 N)) := L4.far (by omega)
      have T5 := T4.put o (.int .i64 N)
      rw [set_cells] at T5
      go_wp2
      go_roundw
      case rel =>
        refine ⟨j + 1, numStep T o, by simp, by omega, HST.out, L5, ?_, ?_, ?_, ?_, R4, B4, fun _ => by first | exact ⟨rfl, P4⟩ | exact ⟨trivial, P4⟩⟩
        · unfold numStep; rw [← HN.out]; exact T5
        · unfold numStep; exact ⟨by simp [hT67], hT1.set _ rfl⟩
        · unfold numStep; simp only; rw [List.getElem?_set_ne (by omega)]; exact hT0
        · unfold numStep; simp only; have := blank_len T.r; have := dw_len (blankR T.r); omega
      case measure => simp; omega
    · have i1 : ¬ (j : Int) < (l.length : Int) := by omega
      have hjl : j = l.length := by omega
      rw [hjl, List.drop_length] at hst
      have hst' : T = S := hst
      subst hst'
      clear hst hA hlo HAD
      have hTk := hT.cell 0
      rw [List.getElem?_toArray, hT0] at hTk
      have hc0 := hL.c0
      have hc1 := hL.c1
      have n1 : ((k : Int) == 1) = false := by rw [beq_eq_false_iff_ne]; omega
      have n5 : ((k : Int) == 5) = false := by rw [beq_eq_false_iff_ne]; omega
      have hTl : T.cs.length = 67 := hT67
      by_cases hx : T.x = true
      · have HF := Lib.hid (show ¬ (T.x = false ∧ T.r = []) from fun e => by rw [hx] at e; cases e.1)
        go_wp2_with ((with_reducible refine so4 [37, 1000 + 37] ?_ ?_); (focus rfl))
        (with_reducible refine ⟨?_⟩); (with_reducible refine at_any ?_ ?_); (focus go_simp); refine fun K0 hK => wp_stp (C := stepZ 0) (stepZ 0) _ _ B 0 rfl rfl rfl hR (by rw [stepZ_len]; decide) (by rw [sizeStep, stepZ_len]) stepZ_one (fun w9 hd ho => hK _ _ ?_)
        clear hK
        have YB := Lib.hid ((ho.below B (Nat.le_refl _) w hBl))
        have YD := Lib.hid hd
        clear hd ho
        go_wp2_with fail
        exact bodyPost_ret (res_row2 rfl _ _ B rfl (C := stepZ 0) YD.out Tryd.underlying37 rfl (by rw [sizeStep, stepZ_len])) rfl ⟨by rw [HRV.out, if_neg HF.out]; rfl, HB.out ▸ YB.out⟩
      have hx : T.x = false := by simpa using hx
      by_cases hr : T.r = []
      · have hr2 : T.r.isEmpty = true := by rw [hr]; rfl
        have hr3 : (T.r == []) = true := by rw [hr]; rfl
        have HF := Lib.hid (show T.x = false ∧ T.r = [] from ⟨hx, hr⟩)
        have HONE := Lib.hid (show T.cs.toArray.all (·.oneCell') = true from hT1.arr)
        clear hr
        go_wp2_with ((with_reducible refine so4 [37, 1000 + 37] ?_ ?_); (focus rfl))
        (with_reducible refine ⟨?_⟩); (with_reducible refine at_any ?_ ?_); (focus go_simp); refine fun K0 hK => wp_ldp (C := T.cs) T.cs _ (B + 1 + 1) 0 _ rfl rfl hT (by simp) Tryd.underlying37 rfl (by rw [sizeStep, hTl]) (hK _ _ ?_)
        clear hK
        go_wp2_with ((with_reducible refine so4 [37, 1000 + 37] ?_ ?_); (focus rfl))
        (with_reducible refine ⟨?_⟩); (with_reducible refine at_any ?_ ?_); (focus go_simp); refine fun K0 hK => wp_stp (C := stepZ 0) T.cs _ _ B 0 rfl rfl rfl hR (by rw [stepZ_len, hTl]; decide) (by rw [sizeStep, hTl]) HONE.out (fun w9 hd ho => hK _ _ ?_)
        clear hK
        have hd2 : Bk w9 B 37 T.cs.toArray := by have := hd; rw [List.take_zero, List.nil_append, hTl, List.drop_of_length_le (by rw [stepZ_len]; decide), List.append_nil] at this; exact this
        have YB := Lib.hid ((ho.below B (Nat.le_refl _) w hBl))
        have YD := Lib.hid hd2
        clear hd ho hd2
        go_wp2_with fail
        exact bodyPost_ret (res_row2 rfl _ _ B rfl (C := T.cs) YD.out Tryd.underlying37 rfl (by rw [sizeStep, hTl])) rfl ⟨by rw [HRV.out, if_pos HF.out]; rfl, HB.out ▸ YB.out⟩
      · have hr2 : T.r.isEmpty = false := by simpa using hr
        have hr3 : (T.r == []) = false := by simpa using hr
        have HF := Lib.hid (show ¬ (T.x = false ∧ T.r = []) from fun e => hr e.2)
        clear hr
        go_wp2_with ((with_reducible refine so4 [37, 1000 + 37] ?_ ?_); (focus rfl))
        (with_reducible refine ⟨?_⟩); (with_reducible refine at_any ?_ ?_); (focus go_simp); refine fun K0 hK => wp_stp (C := stepZ 0) (stepZ 0) _ _ B 0 rfl rfl rfl hR (by rw [stepZ_len]; decide) (by rw [sizeStep, stepZ_len]) stepZ_one (fun w9 hd ho => hK _ _ ?_)
        clear hK
        have YB := Lib.hid ((ho.below B (Nat.le_refl _) w hBl))
        have YD := Lib.hid hd
        clear hd ho
        go_wp2_with fail
        exact bodyPost_ret (res_row2 rfl _ _ B rfl (C := stepZ 0) YD.out Tryd.underlying37 rfl (by rw [sizeStep, stepZ_len])) rfl ⟨by rw [HRV.out, if_neg HF.out]; rfl, HB.out ▸ YB.out⟩
end Go.Proofs.YtgkmfhhoifbbbaaDoor
