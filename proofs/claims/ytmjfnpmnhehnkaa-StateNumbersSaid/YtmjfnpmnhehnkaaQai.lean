/- Tg, FlX -/
import Derived.Test.YtmjfnpmnhehnkaaQah
set_option maxRecDepth 100000
set_option maxHeartbeats 16000000
namespace Go.Proofs.Ytmjfnpmnhehnkaa
open Go.RowKit
theorem Try.slVS : Try.prog.underlying 37 = some (.slice (Try.prog.elem 37)) := by kernel_rfl
theorem Try.szVS (w : World) : (sizeOf (Try.prog.elem 37)).run Try.prog w = .ok 42 w := by kernel_rfl
section
variable {P : Program} {ops : Array Oper} {rest : List Oper} {d : Option Tmp} {t2 : TypeId} {pos : String} {af : Array Edge} {g : Option (Nat × Bool)} {a : Act} {w : World} {Q : Exit → Act → World → Prop}
theorem stop_slice {t : TypeId} {x : Operand} {l h m : Option Operand} (k : Stop (wpList P ops Q ({ dst := d, op := .slice t x l h m, type := t2, pos := pos, after := af, guard := g } :: rest) a w)) : wpList P ops Q ({ dst := d, op := .slice t x l h m, type := t2, pos := pos, after := af, guard := g } :: rest) a w := k.go
theorem stop_copy {x y : Operand} {ts : Array TypeId} (k : Stop (wpList P ops Q ({ dst := d, op := .call { callee := .builtin .copy, args := #[x, y], argTypes := ts }, type := t2, pos := pos, after := af, guard := g } :: rest) a w)) : wpList P ops Q ({ dst := d, op := .call { callee := .builtin .copy, args := #[x, y], argTypes := ts }, type := t2, pos := pos, after := af, guard := g } :: rest) a w := k.go
end
theorem sliced_at (g n cap k : Nat) (h : k < cap) : sliced (some ⟨g, 0, none⟩) k n cap 42 = .slice (some ⟨g, k * 42, none⟩) (n - k) (cap - k) := by
 unfold sliced
 rw [if_neg (by omega), Option.map_some, Addr.add_lit, Nat.zero_add]
theorem sliced_0 (g n cap : Nat) : sliced (some ⟨g, 0, none⟩) 0 n cap 42 = .slice (some ⟨g, 0, none⟩) n cap := by
 unfold sliced
 rw [Option.map_some, Nat.zero_mul, Addr.add_lit, Nat.zero_add, Nat.sub_zero, Nat.sub_zero]
 split <;> rfl
theorem wp_zeros {o : Oper} {a : Act} {w : World} {K : Act → World → Prop} {Q : Exit → Act → World → Prop} (s x : Operand) (ho : o.op = .call { callee := .builtin .append, args := #[s, x], argTypes := #[37, 3] })
  (g sLen sCap n : Nat) (m : Int) (hs : a.eval s = .slice (some ⟨g, 0, none⟩) sLen sCap) (hx : a.eval x = .int .i64 m) (hm : m = (n : Int)) (olds : List Value) (hlo : olds.length = sLen * 42) (holds : ∀ j v, olds[j]? = some v → w.cell? ((⟨g, 0, none⟩ : Addr).add j) = some v)
  (h0 : 0 < n) (hg : sCap < sLen + n) (h63 : sLen + n ≤ 1000)
  (hk : ∀ (cap : Nat) (C : List Value) (w' : World), Bk w' w.heap.size 36 C.toArray → C.length = cap * 42 → sLen + n ≤ cap → cap ≤ maxLen → C.take (sLen * 42) = olds → Ex w w' → K (a.put o.dst (.slice (some ⟨w.heap.size, 0, none⟩) (sLen + n) cap)) w') : o.wp Try.prog a w K Q := by
 obtain ⟨i0, hi0, hz0, hz1, hz2⟩ := info_parts Try.infoVt
 subst hm
 have hr := run_append_zeros w 37 3 o.type 36 i0 zeroVt.V .i64 .i64 Try.underlying37 Try.underlying3 hi0 hz0 ⟨g, 0, none⟩ sLen sCap n olds (by rw [hz1]; exact hlo) holds h0 (by rw [hz1]; decide) hg h63 (by rw [hz2]; decide)
 have hge := grownCap_ge w (sLen + n) sCap 36
 have hcm := grownCap_le_maxLen w (sLen + n) sCap 36 (by unfold maxLen; omega)
 generalize grownCap w (sLen + n) sCap 36 = cap at *
 refine Lib.wp_append_run w s x 37 3 ho _ _ hs hx _ _ hr ?_
 have hzs : zeroVt.V.cells.size = 42 := rfl
 refine hk cap (olds ++ (Builtin.zeroCells zeroVt.V.cells n).toList ++ (Builtin.zeroCells zeroVt.V.cells (cap - (sLen + n))).toList) _ ?_ ?_ hge hcm ?_ ?_
 ·have e : (olds ++ (Builtin.zeroCells zeroVt.V.cells n).toList ++ (Builtin.zeroCells zeroVt.V.cells (cap - (sLen + n))).toList).toArray = olds.toArray ++ Builtin.zeroCells zeroVt.V.cells n ++ Builtin.zeroCells zeroVt.V.cells (cap - (sLen + n)) := by
   simp
  rw [e]
  exact Bk.new rfl _ _
 ·simp only [List.length_append, Array.length_toList, size_zeroCells, hzs, hlo, ← Nat.add_mul]
  congr 1; omega
 ·rw [List.append_assoc, ← hlo]; exact List.take_left
 ·exact ((Below.refl _ _).drew).alloc (Nat.le_refl _) _
def CpI (base : World) (F : World → Prop) (b : Bool) (w : World) : Prop := if b = true then F w else w = base
def InsPost (xs zs : List Value) (B i n : Nat) (v : Value) (w : World) (e : Ending) (w' : World) : Prop :=
 ∃ v', e = .returned v' ∧ w'.ownsRow B 36 42 v' (n + 1) (xs.take (i * 42) ++ zs ++ xs.drop (i * 42)) ∧ w.grownBy w' v.ownBlock ∧ Lies w v v'
theorem ins_any (B n i : Nat) (v : Value) (xs zs : List Value) (b : Nat) (w : World) (hin : i ≤ n) (hn : n ≤ 3) (hown : w.ownsRow B 36 42 v n xs) (hB : B ≤ w.heap.size) (h1 : ∀ u ∈ xs, u.oneCell' = true) (hz1 : ∀ u ∈ zs, u.oneCell' = true) (hzl : zs.length = 42) (hb : Bk w b 36 zs.toArray) (hne : v.ownBlock ≠ some b) :
  Calls Try.prog 102 #[v, .int .i64 i, .slice (some ⟨b, 0, none⟩) 1 1] w (InsPost xs zs B i n v w) := by
 have HOWN := Hi hown
 have HB0 := Hi hB
 have H1 := Hi h1
 have HZ1 := Hi hz1
 have HZL := Hi hzl
 have HBK := Hi hb
 have HNE := Hi hne
 obtain ⟨ad, cap, rfl, hnil, hnc, hcm, hrd⟩ := own_rd hown
 have HRD := Hi hrd
 have hin0 : (0 : Int) ≤ (i : Int) := by omega
 have HRB : Hid (∀ j u, zs[j]? = some u → w.cell? ((⟨b, 0, none⟩ : Addr).add j) = some u) := Hi (fun j u hu => by rw [Addr.add_lit, Nat.zero_add, hb.cell]; simpa using hu)
 clear hown hB h1 hz1 hzl hb hne hnil hrd
 by_cases hi : i = n
 ·have hii : (i : Int) = (n : Int) := by omega
  go_enter Try.func102, Try.ntmps102
  go_wp2_with (first | ((with_reducible refine so4 [36, 1000+36, 32, 1000+32, 4000+36] ?_ ?_); (focus rfl)) | (with_reducible refine stop_bs (t := 37) ?_) | (with_reducible refine stop_app ?_) | (with_reducible refine stop_slice ?_) | (with_reducible refine stop_copy ?_))
  refine at9 (by go_simp) fun K0 hK => wp_sl_l 37 _ _ rfl Try.slVS 42 Try.szVS ad n cap i rfl rfl hin (hK _ _ ?_)
  clear hK
  generalize sliced ad i n cap 42 = y12
  go_wp2_with (first | ((with_reducible refine so4 [36, 1000+36, 32, 1000+32, 4000+36] ?_ ?_); (focus rfl)) | (with_reducible refine stop_bs (t := 37) ?_) | (with_reducible refine stop_app ?_) | (with_reducible refine stop_slice ?_) | (with_reducible refine stop_copy ?_))
  refine at9 (by go_simp) fun K0 hK => wp_rtell _ _ 37 36 zeroVt.V 42 96 rfl Try.underlying37 Try.infoVt rfl (by decide) B n _ xs rfl HOWN.out HB0.out ⟨b, 0, none⟩ 1 1 zs rfl (by rw [HZL.out]) HRB.out HZ1.out (by decide) (by omega) (by omega) (fun v' w' r1 r2 r3 => hK _ _ ?_)
  clear hK
  have HR1 : Hid (w'.ownsRow B 36 42 v' (n + 1) (xs.take (i * 42) ++ zs ++ xs.drop (i * 42))) := Hi (by rw [hi, List.take_of_length_le (by rw [HOWN.out.1]; exact Nat.le_refl _), List.drop_of_length_le (by rw [HOWN.out.1]; exact Nat.le_refl _), List.append_nil]; exact r1)
  have HR2 := Hi r2
  have HR3 := Hi r3
  clear r1 r2 r3 hi
  go_wp2_with fail
  go_ret
  exact ⟨v', rfl, HR1.out, HR2.out, HR3.out⟩
 obtain ⟨hxl, ⟨hv, h0⟩ | ⟨g, cap2, cur, hv, hgb, hgk, _, hcm2, hcs, htk⟩⟩ := HOWN.out
 ·omega
 cases hv
 have hii : ¬ (i : Int) = (n : Int) := by omega
 have GK : Hid (Bk w g 36 cur.toList.toArray) := Hi (by rw [Array.toArray_toList]; exact hgk)
 obtain ⟨C0, hC0⟩ : ∃ C, C = cur.toList := ⟨_, rfl⟩
 rw [← hC0] at GK htk
 have HCL : Hid (C0.length = cap * 42) := Hi (by rw [hC0, Array.length_toList]; exact hcs)
 have HTK := Hi htk
 have HXL := Hi hxl
 have HGB := Hi hgb
 have HGN : Hid (g ≠ b) := Hi (fun e => HNE.out (by rw [e]; rfl))
 clear hgk hC0 hcs htk hxl hgb hcm2
 clear cur
 by_cases hc : n + 1 ≤ cap
 ·have hci : ¬ (cap : Int) < (n : Int) + 1 := by omega
  go_enter Try.func102, Try.ntmps102
  go_wp2_with (first | ((with_reducible refine so4 [36, 1000+36, 32, 1000+32, 4000+36] ?_ ?_); (focus rfl)) | (with_reducible refine stop_bs (t := 37) ?_) | (with_reducible refine stop_app ?_) | (with_reducible refine stop_slice ?_) | (with_reducible refine stop_copy ?_))
  refine at9 (by go_simp) fun K0 hK => wp_sl_l 37 _ _ rfl Try.slVS 42 Try.szVS _ n cap i rfl rfl hin (hK _ _ ?_)
  clear hK
  generalize sliced _ i n cap 42 = y12
  go_wp2_with (first | ((with_reducible refine so4 [36, 1000+36, 32, 1000+32, 4000+36] ?_ ?_); (focus rfl)) | (with_reducible refine stop_bs (t := 37) ?_) | (with_reducible refine stop_app ?_) | (with_reducible refine stop_slice ?_) | (with_reducible refine stop_copy ?_))
  (first | rw [show (Value.int .i64 ((n : Int) + 1)) = .int .i64 ((n + 1 : Nat) : Int) from by rw [Int.natCast_add]; rfl] | skip)
  refine at9 (by go_simp) fun K0 hK => wp_sl_h 37 _ _ rfl Try.slVS 42 Try.szVS _ n cap (n + 1) rfl rfl hc (hK _ _ ?_)
  clear hK
  rw [sliced_0]
  go_wp2_with (first | ((with_reducible refine so4 [36, 1000+36, 32, 1000+32, 4000+36] ?_ ?_); (focus rfl)) | (with_reducible refine stop_bs (t := 37) ?_) | (with_reducible refine stop_app ?_) | (with_reducible refine stop_slice ?_) | (with_reducible refine stop_copy ?_))
  (first | rw [show (Value.int .i64 ((i : Int) + 1)) = .int .i64 ((i + 1 : Nat) : Int) from by rw [Int.natCast_add]; rfl] | skip)
  refine at9 (by go_simp) fun K0 hK => wp_sl_l 37 _ _ rfl Try.slVS 42 Try.szVS _ (n + 1) cap (i + 1) rfl rfl (by omega) (hK _ _ ?_)
  clear hK
  rw [sliced_at g (n + 1) cap (i + 1) (by omega)]
  go_wp2_with (first | ((with_reducible refine so4 [36, 1000+36, 32, 1000+32, 4000+36] ?_ ?_); (focus rfl)) | (with_reducible refine stop_bs (t := 37) ?_) | (with_reducible refine stop_app ?_) | (with_reducible refine stop_slice ?_) | (with_reducible refine stop_copy ?_))
  have hov := Lib.run_overlaps_apart (P := Try.prog) w 37 4 36 Try.underlying37 42 (fun w => by kernel_rfl) ⟨b, 0, none⟩ ⟨g, (i + 1) * 42, none⟩ 1 1 (n - i) (cap - (i + 1)) (fun e => HGN.out e.symm) 36 36 42 (cap * 42) (by have h := HBK.out; unfold Bk at h; simp only [World.shape?, h, List.size_toArray, HZL.out]) (by have h := GK.out; unfold Bk at h; simp only [World.shape?, h, List.size_toArray, HCL.out]) (by omega) (by have h := HBK.out; unfold Bk at h; simp [World.frozen?, h]) (by have h := HBK.out; unfold Bk at h; simp [World.frozen?, h])
  rw [run_callFunc_extern Try.func132 (by kernel_rfl) (by kernel_rfl) (by kernel_rfl) (e := Extern.SlicesOverlaps.overlaps #[37, 37] #[4]) (by kernel_rfl), hov]
  simp only [Result.andThen]
  rw [Oper.upon_value]
  clear hov
  go_wp2_with (first | ((with_reducible refine so4 [36, 1000+36, 32, 1000+32, 4000+36] ?_ ?_); (focus rfl)) | (with_reducible refine stop_bs (t := 37) ?_) | (with_reducible refine stop_app ?_) | (with_reducible refine stop_slice ?_) | (with_reducible refine stop_copy ?_))
  obtain ⟨V0, hV⟩ : ∃ V0 : List Value, V0 = [.slice (some ⟨g, 0, none⟩) (n + 1) (cap), .int .i64 ((i : Nat) : Int), .int .i64 ((1 : Nat) : Int), .int .i64 ((i + 1 : Nat) : Int), .slice (some ⟨g, (i + 1) * 42, none⟩) (n + 1 - (i + 1)) (cap - (i + 1)), .slice (some ⟨g, 0, none⟩) (n + 1) (cap), .int .i64 ((i : Nat) : Int), .slice (some ⟨g, i * 42, none⟩) (n + 1 - i) (cap - i), .int .i64 ((n - i : Nat) : Int)] := ⟨_, rfl⟩
  refine wp_region_val (fun i => V0.getD i undef) (fun l => CpI w.drew (fun w9 => Bk w9 g 36 (C0.take ((i + 1) * 42) ++ xs.drop (i * 42) ++ C0.drop ((i + 1) * 42 + (xs.drop (i * 42)).length)).toArray ∧ w.grownBy w9 (some g)) (l.getD 8 false)) (by kernel_rfl) (by kernel_rfl) (by kernel_rfl) (fitB_spec (by kernel_rfl)) ?_ ?_ ?_
  ·intro l h0
   rw [h0]
   show CpI _ _ false _
   unfold CpI; rw [if_neg (by decide)]
  ·intro i o ho
   have hi : i < 9 := (Array.getElem?_eq_some_iff.1 ho).1
   have hi' : i = 0 ∨ i = 1 ∨ i = 2 ∨ i = 3 ∨ i = 4 ∨ i = 5 ∨ i = 6 ∨ i = 7 ∨ i = 8 := by omega
   clear hi
   rcases hi' with rfl | rfl | rfl | rfl | rfl | rfl | rfl | rfl | rfl
   all_goals (simp only [List.getElem?_toArray, List.getElem?_cons_zero, List.getElem?_cons_succ, Option.some.injEq] at ho; subst ho hV; intro listed a w2 hI hsz hls hun hdep hout)
   ·rw [if_pos (by rfl)]
    intro K hK
    have q0 := hout 0 ob
    clear hsz hdep hout hun
    go_simp
    exact hK _ (by show CpI _ _ _ _; rw [bit_set (by decide)]; exact hI)
   ·rw [if_pos (by rfl)]
    intro K hK
    have q1 := hout 1 ob
    clear hsz hdep hout hun
    go_simp
    exact hK _ (by show CpI _ _ _ _; rw [bit_set (by decide)]; exact hI)
   ·rw [if_pos (by rfl)]
    intro K hK
    have q7 := hout 7 ob
    clear hsz hdep hout hun
    go_simp
    exact hK _ (by show CpI _ _ _ _; rw [bit_set (by decide)]; exact hI)
   ·rw [if_pos (by rfl)]
    intro K hK
    have q70 := (hdep ⟨1, .data⟩ (by simp) rfl).2 _ rfl _ rfl
    have q70 : a.tmps.getD 70 undef = .int .i64 ((i : Nat) : Int) := q70
    have q71 := (hdep ⟨2, .data⟩ (by simp) rfl).2 _ rfl _ rfl
    have q71 : a.tmps.getD 71 undef = .int .i64 ((1 : Nat) : Int) := q71
    have e1 : IntKind.i64.wrap ((i : Int) + 1) = ((i + 1 : Nat) : Int) := by rw [IntKind.wrap_i64]; omega
    clear hsz hdep hout hun
    go_simp
    exact hK _ (by show CpI _ _ _ _; rw [bit_set (by decide)]; exact hI)
   ·rw [if_pos (by rfl)]
    intro K hK
    have q69 := (hdep ⟨0, .data⟩ (by simp) rfl).2 _ rfl _ rfl
    have q69 : a.tmps.getD 69 undef = .slice (some ⟨g, 0, none⟩) (n + 1) (cap) := q69
    have q72 := (hdep ⟨3, .data⟩ (by simp) rfl).2 _ rfl _ rfl
    have q72 : a.tmps.getD 72 undef = .int .i64 ((i + 1 : Nat) : Int) := q72
    refine wp_sl_l 37 _ _ rfl Try.slVS 42 Try.szVS _ (n + 1) cap (i + 1) q69 q72 (by omega) ?_
    rw [sliced_at g (n + 1) cap (i + 1) (by omega)]
    exact hK _ (by show CpI _ _ _ _; rw [bit_set (by decide)]; exact hI)
   ·rw [if_pos (by rfl)]
    intro K hK
    have q0 := hout 0 ob
    clear hsz hdep hout hun
    go_simp
    exact hK _ (by show CpI _ _ _ _; rw [bit_set (by decide)]; exact hI)
   ·rw [if_pos (by rfl)]
    intro K hK
    have q1 := hout 1 ob
    clear hsz hdep hout hun
    go_simp
    exact hK _ (by show CpI _ _ _ _; rw [bit_set (by decide)]; exact hI)
   ·rw [if_pos (by rfl)]
    intro K hK
    have q74 := (hdep ⟨5, .data⟩ (by simp) rfl).2 _ rfl _ rfl
    have q74 : a.tmps.getD 74 undef = .slice (some ⟨g, 0, none⟩) (n + 1) (cap) := q74
    have q75 := (hdep ⟨6, .data⟩ (by simp) rfl).2 _ rfl _ rfl
    have q75 : a.tmps.getD 75 undef = .int .i64 ((i : Nat) : Int) := q75
    refine wp_sl_l 37 _ _ rfl Try.slVS 42 Try.szVS _ (n + 1) cap (i) q74 q75 (by omega) ?_
    rw [sliced_at g (n + 1) cap (i) (by omega)]
    exact hK _ (by show CpI _ _ _ _; rw [bit_set (by decide)]; exact hI)
   rw [if_pos (by rfl)]
   intro K hK
   have q73 := (hdep ⟨4, .data⟩ (by simp) rfl).2 _ rfl _ rfl
   have q73 : a.tmps.getD 73 undef = .slice (some ⟨g, (i + 1) * 42, none⟩) (n + 1 - (i + 1)) (cap - (i + 1)) := q73
   have q76 := (hdep ⟨7, .data⟩ (by simp) rfl).2 _ rfl _ rfl
   have q76 : a.tmps.getD 76 undef = .slice (some ⟨g, i * 42, none⟩) (n + 1 - i) (cap - i) := q76
   have hw2 : w2 = w.drew := by
    have h : CpI _ _ (listed.getD 8 false) w2 := hI
    rw [hun] at h; unfold CpI at h; rw [if_neg (by decide)] at h; exact h
   subst hw2
   refine wp_copy_bk _ _ 37 37 36 g ((i + 1) * 42) (n + 1 - (i + 1)) (cap - (i + 1)) ⟨g, i * 42, none⟩ (n + 1 - i) (cap - i) 42 C0 36 (xs.drop (i * 42)) rfl q73 q76 Try.underlying37 Try.sizeVt (GK.out.ext (Below.refl _ _).drew) ?_ (fun j u hu => by rw [Addr.add_lit]; exact (Below.cell (p := ⟨g, i * 42 + j, none⟩) (show Ex w w.drew from (Below.refl _ _).drew) GK.out.lt).trans (by rw [GK.out.cell]; rw [List.getElem?_toArray]; rw [← HTK.out, List.getElem?_drop, List.getElem?_take] at hu; split at hu; exact hu; cases hu)) ?_ (fun u hu => H1.out u (List.mem_of_mem_drop hu)) (fun w9 hd ho => ?_)
   ·rw [List.length_drop, HXL.out, ← Nat.sub_mul]; congr 1; simp only [Nat.min_def]; split <;> omega
   ·rw [List.length_drop, HXL.out, ← Nat.sub_mul, HCL.out]; rw [← Nat.add_mul]; exact Nat.mul_le_mul_right _ (by omega)
   rw [show Nat.min (n + 1 - i) (n + 1 - (i + 1)) = n - i from by simp only [Nat.min_def]; split <;> omega]
   refine hK _ ?_
   show CpI _ _ _ _
   rw [bit_new (by rw [hls]; decide)]
   unfold CpI; rw [if_pos rfl]
   exact ⟨hd, grownBy_only (Ex.grownBy _ (show Ex w w.drew from (Below.refl _ _).drew)) ho (Or.inl rfl)⟩
  intro listed w3 hall hI
  rw [hall 8 (by simp)] at hI
  unfold CpI at hI
  rw [if_pos rfl] at hI
  subst hV
  simp only [putAll, List.getD_cons_zero, List.getD_cons_succ, Act.put, List.setIfInBounds_toArray, List.set_cons_zero, List.set_cons_succ]
  have HF := Hi hI
  clear hI hall
  go_wp2_with (first | ((with_reducible refine so4 [36, 1000+36, 32, 1000+32, 4000+36] ?_ ?_); (focus rfl)) | (with_reducible refine stop_bs (t := 37) ?_) | (with_reducible refine stop_app ?_) | (with_reducible refine stop_slice ?_) | (with_reducible refine stop_copy ?_))
  refine at9 (by go_simp) fun K0 hK => wp_sl_l 37 _ _ rfl Try.slVS 42 Try.szVS _ (n + 1) cap i rfl rfl (by omega) (hK _ _ ?_)
  clear hK
  rw [sliced_at g (n + 1) cap i (by omega)]
  go_wp2_with (first | ((with_reducible refine so4 [36, 1000+36, 32, 1000+32, 4000+36] ?_ ?_); (focus rfl)) | (with_reducible refine stop_bs (t := 37) ?_) | (with_reducible refine stop_app ?_) | (with_reducible refine stop_slice ?_) | (with_reducible refine stop_copy ?_))
  have hbk3 : Bk w3 b 36 zs.toArray := (HF.out.2.block b HBK.out.lt (fun e => HGN.out (by cases e; rfl))).trans HBK.out
  refine at9 (by go_simp) fun K0 hK => wp_copy_bk _ _ 37 37 36 g (i * 42) (n + 1 - i) (cap - i) ⟨b, 0, none⟩ 1 1 42 (C0.take ((i + 1) * 42) ++ xs.drop (i * 42) ++ C0.drop ((i + 1) * 42 + (xs.drop (i * 42)).length)) 36 zs rfl rfl rfl Try.underlying37 Try.sizeVt HF.out.1 (by rw [HZL.out, show Nat.min 1 (n + 1 - i) = 1 from by simp only [Nat.min_def]; split <;> omega]) (fun j u hu => by rw [Addr.add_lit, Nat.zero_add, hbk3.cell]; simpa using hu) (by simp only [List.length_append, List.length_take, List.length_drop, HZL.out, HCL.out, HXL.out]; omega) HZ1.out (fun w4 hd ho => hK _ _ ?_)
  clear hK
  have HRES : Hid (InsPost xs zs B i n (.slice (some ⟨g, 0, none⟩) n cap) w (.returned (.slice (some ⟨g, 0, none⟩) (n + 1) cap)) w4) := Hi (by
   have hA : (xs.take (i * 42)).length = i * 42 := by rw [List.length_take, HXL.out]; omega
   have hY : (xs.drop (i * 42)).length = (n - i) * 42 := by rw [List.length_drop, HXL.out, Nat.sub_mul]
   have h42 : (i + 1) * 42 = i * 42 + 42 := Nat.succ_mul i 42
   have hn42 : (n - i) * 42 + i * 42 = n * 42 := by rw [← Nat.add_mul]; congr 1; omega
   have hc42 : (n + 1) * 42 ≤ cap * 42 := Nat.mul_le_mul_right _ hc
   have hsh := take_shift (A := xs.take (i * 42)) (z := zs) (Y := xs.drop (i * 42)) (C := C0) hA HZL.out (by rw [List.take_append_drop, hY, ← HTK.out]; congr 1; omega) (by rw [hY, HCL.out]; omega)
   refine ⟨_, rfl, ⟨by simp only [List.length_append, hA, hY, HZL.out]; omega, Or.inr ⟨g, cap, _, rfl, HGB.out, hd, hc, by simpa [maxLen] using hcm, ?_, ?_⟩⟩, grownBy_only HF.out.2 ho (Or.inl rfl), Or.inl rfl⟩
   ·rw [h42, HZL.out]
    simp only [List.size_toArray, List.length_append, List.length_take, List.length_drop, HCL.out, HZL.out, hY]
    omega
   ·rw [h42, HZL.out]
    rw [show (n + 1) * 42 = i * 42 + 42 + (xs.drop (i * 42)).length from by rw [hY]; omega]
    exact hsh)
  clear hd ho hbk3 HF
  go_wp2_with fail
  go_ret
  exact HRES.out
 have hci : (cap : Int) < (n : Int) + 1 := by omega
 go_enter Try.func102, Try.ntmps102
 go_wp2_with (first | ((with_reducible refine so4 [36, 1000+36, 32, 1000+32, 4000+36] ?_ ?_); (focus rfl)) | (with_reducible refine stop_bs (t := 37) ?_) | (with_reducible refine stop_app ?_) | (with_reducible refine stop_slice ?_) | (with_reducible refine stop_copy ?_))
 refine at9 (by go_simp) fun K0 hK => wp_sl_l 37 _ _ rfl Try.slVS 42 Try.szVS _ n cap i rfl rfl hin (hK _ _ ?_)
 clear hK
 generalize sliced _ i n cap 42 = y12
 go_wp2_with (first | ((with_reducible refine so4 [36, 1000+36, 32, 1000+32, 4000+36] ?_ ?_); (focus rfl)) | (with_reducible refine stop_bs (t := 37) ?_) | (with_reducible refine stop_app ?_) | (with_reducible refine stop_slice ?_) | (with_reducible refine stop_copy ?_))
 refine at9 (by go_simp) fun K0 hK => wp_sl_h 37 _ _ rfl Try.slVS 42 Try.szVS _ n cap i rfl rfl (by omega) (hK _ _ ?_)
 clear hK
 rw [sliced_0]
 go_wp2_with (first | ((with_reducible refine so4 [36, 1000+36, 32, 1000+32, 4000+36] ?_ ?_); (focus rfl)) | (with_reducible refine stop_bs (t := 37) ?_) | (with_reducible refine stop_app ?_) | (with_reducible refine stop_slice ?_) | (with_reducible refine stop_copy ?_))
 refine at9 (by go_simp) fun K0 hK => wp_zeros _ _ rfl g i cap (n + 1 - i) _ rfl rfl (by omega) (xs.take (i * 42)) (by rw [List.length_take, HXL.out]; omega) (fun j u hu => by rw [Addr.add_lit, Nat.zero_add, GK.out.cell, List.getElem?_toArray]; rw [← HTK.out, List.getElem?_take, List.getElem?_take] at hu; split at hu; (split at hu; exact hu; cases hu); cases hu) (by omega) (by omega) (by omega) (fun cp C wa hgk hcl hge hmx htk0 xa => hK _ _ ?_)
 clear hK
 rw [show i + (n + 1 - i) = n + 1 from by omega] at hge ⊢
 obtain ⟨g2, hg2⟩ : ∃ g2, g2 = w.heap.size := ⟨_, rfl⟩
 rw [← hg2] at hgk ⊢
 have HG2 := Hi hg2
 have HGK := Hi hgk
 have HC2 := Hi hcl
 have HMX := Hi hmx
 have HT0 := Hi htk0
 have XA := Hi xa
 clear hgk hcl hmx htk0 xa hg2
 go_wp2_with (first | ((with_reducible refine so4 [36, 1000+36, 32, 1000+32, 4000+36] ?_ ?_); (focus rfl)) | (with_reducible refine stop_bs (t := 37) ?_) | (with_reducible refine stop_app ?_) | (with_reducible refine stop_slice ?_) | (with_reducible refine stop_copy ?_))
 refine at9 (by go_simp) fun K0 hK => wp_sl_l 37 _ _ rfl Try.slVS 42 Try.szVS _ (n + 1) cp i rfl rfl (by omega) (hK _ _ ?_)
 clear hK
 rw [sliced_at g2 (n + 1) cp i (by omega)]
 go_wp2_with (first | ((with_reducible refine so4 [36, 1000+36, 32, 1000+32, 4000+36] ?_ ?_); (focus rfl)) | (with_reducible refine stop_bs (t := 37) ?_) | (with_reducible refine stop_app ?_) | (with_reducible refine stop_slice ?_) | (with_reducible refine stop_copy ?_))
 have hbk3 : Bk wa b 36 zs.toArray := HBK.out.ext XA.out
 refine at9 (by go_simp) fun K0 hK => wp_copy_bk _ _ 37 37 36 g2 (i * 42) (n + 1 - i) (cp - i) ⟨b, 0, none⟩ 1 1 42 C 36 zs rfl rfl rfl Try.underlying37 Try.sizeVt HGK.out (by rw [HZL.out, show Nat.min 1 (n + 1 - i) = 1 from by simp only [Nat.min_def]; split <;> omega]) (fun j u hu => by rw [Addr.add_lit, Nat.zero_add, hbk3.cell]; simpa using hu) (by rw [HC2.out, HZL.out]; omega) HZ1.out (fun wb hd ho => hK _ _ ?_)
 clear hK
 obtain ⟨C2, hC2⟩ : ∃ C2, C2 = C.take (i * 42) ++ zs ++ C.drop (i * 42 + zs.length) := ⟨_, rfl⟩
 rw [← hC2] at hd
 have HD := Hi hd
 have XB := Hi (Md.ex ho.md XA.out (by rw [HG2.out]; exact Nat.le_refl _))
 have HC2e := Hi hC2
 have HCL2 : Hid (C2.length = cp * 42) := Hi (by rw [hC2]; simp only [List.length_append, List.length_take, List.length_drop, HC2.out, HZL.out]; omega)
 have HC1 := HC2
 replace HC2 := HCL2
 have GB := Hi (GK.out.ext XB.out)
 clear hC2 hd ho hbk3 HGK
 go_wp2_with (first | ((with_reducible refine so4 [36, 1000+36, 32, 1000+32, 4000+36] ?_ ?_); (focus rfl)) | (with_reducible refine stop_bs (t := 37) ?_) | (with_reducible refine stop_app ?_) | (with_reducible refine stop_slice ?_) | (with_reducible refine stop_copy ?_))
 obtain ⟨V0, hV⟩ : ∃ V0 : List Value, V0 = [.slice (some ⟨g2, 0, none⟩) (n + 1) (cp), .int .i64 ((i : Nat) : Int), .int .i64 ((1 : Nat) : Int), .int .i64 ((i + 1 : Nat) : Int), .slice (some ⟨g2, (i + 1) * 42, none⟩) (n + 1 - (i + 1)) (cp - (i + 1)), .slice (some ⟨g, 0, none⟩) (n) (cap), .int .i64 ((i : Nat) : Int), .slice (some ⟨g, i * 42, none⟩) (n - i) (cap - i), .int .i64 ((n - i : Nat) : Int)] := ⟨_, rfl⟩
 refine wp_region_val (fun i => V0.getD i undef) (fun l => CpI wb.drew (fun w9 => Bk w9 g2 36 (C2.take ((i + 1) * 42) ++ xs.drop (i * 42) ++ C2.drop ((i + 1) * 42 + (xs.drop (i * 42)).length)).toArray ∧ Ex w w9) (l.getD 8 false)) (by kernel_rfl) (by kernel_rfl) (by kernel_rfl) (fitB_spec (by kernel_rfl)) ?_ ?_ ?_
 ·intro l h0
  rw [h0]
  show CpI _ _ false _
  unfold CpI; rw [if_neg (by decide)]
 ·intro i o ho
  have hi : i < 9 := (Array.getElem?_eq_some_iff.1 ho).1
  have hi' : i = 0 ∨ i = 1 ∨ i = 2 ∨ i = 3 ∨ i = 4 ∨ i = 5 ∨ i = 6 ∨ i = 7 ∨ i = 8 := by omega
  clear hi
  rcases hi' with rfl | rfl | rfl | rfl | rfl | rfl | rfl | rfl | rfl
  all_goals (simp only [List.getElem?_toArray, List.getElem?_cons_zero, List.getElem?_cons_succ, Option.some.injEq] at ho; subst ho hV; intro listed a w2 hI hsz hls hun hdep hout)
  ·rw [if_pos (by rfl)]
   intro K hK
   have q9 := hout 9 ob
   clear hsz hdep hout hun
   go_simp
   exact hK _ (by show CpI _ _ _ _; rw [bit_set (by decide)]; exact hI)
  ·rw [if_pos (by rfl)]
   intro K hK
   have q1 := hout 1 ob
   clear hsz hdep hout hun
   go_simp
   exact hK _ (by show CpI _ _ _ _; rw [bit_set (by decide)]; exact hI)
  ·rw [if_pos (by rfl)]
   intro K hK
   have q7 := hout 7 ob
   clear hsz hdep hout hun
   go_simp
   exact hK _ (by show CpI _ _ _ _; rw [bit_set (by decide)]; exact hI)
  ·rw [if_pos (by rfl)]
   intro K hK
   have q47 := (hdep ⟨1, .data⟩ (by simp) rfl).2 _ rfl _ rfl
   have q47 : a.tmps.getD 47 undef = .int .i64 ((i : Nat) : Int) := q47
   have q48 := (hdep ⟨2, .data⟩ (by simp) rfl).2 _ rfl _ rfl
   have q48 : a.tmps.getD 48 undef = .int .i64 ((1 : Nat) : Int) := q48
   have e1 : IntKind.i64.wrap ((i : Int) + 1) = ((i + 1 : Nat) : Int) := by rw [IntKind.wrap_i64]; omega
   clear hsz hdep hout hun
   go_simp
   exact hK _ (by show CpI _ _ _ _; rw [bit_set (by decide)]; exact hI)
  ·rw [if_pos (by rfl)]
   intro K hK
   have q46 := (hdep ⟨0, .data⟩ (by simp) rfl).2 _ rfl _ rfl
   have q46 : a.tmps.getD 46 undef = .slice (some ⟨g2, 0, none⟩) (n + 1) (cp) := q46
   have q49 := (hdep ⟨3, .data⟩ (by simp) rfl).2 _ rfl _ rfl
   have q49 : a.tmps.getD 49 undef = .int .i64 ((i + 1 : Nat) : Int) := q49
   refine wp_sl_l 37 _ _ rfl Try.slVS 42 Try.szVS _ (n + 1) cp (i + 1) q46 q49 (by omega) ?_
   rw [sliced_at g2 (n + 1) cp (i + 1) (by omega)]
   exact hK _ (by show CpI _ _ _ _; rw [bit_set (by decide)]; exact hI)
  ·rw [if_pos (by rfl)]
   intro K hK
   have q0 := hout 0 ob
   clear hsz hdep hout hun
   go_simp
   exact hK _ (by show CpI _ _ _ _; rw [bit_set (by decide)]; exact hI)
  ·rw [if_pos (by rfl)]
   intro K hK
   have q1 := hout 1 ob
   clear hsz hdep hout hun
   go_simp
   exact hK _ (by show CpI _ _ _ _; rw [bit_set (by decide)]; exact hI)
  ·rw [if_pos (by rfl)]
   intro K hK
   have q51 := (hdep ⟨5, .data⟩ (by simp) rfl).2 _ rfl _ rfl
   have q51 : a.tmps.getD 51 undef = .slice (some ⟨g, 0, none⟩) (n) (cap) := q51
   have q52 := (hdep ⟨6, .data⟩ (by simp) rfl).2 _ rfl _ rfl
   have q52 : a.tmps.getD 52 undef = .int .i64 ((i : Nat) : Int) := q52
   refine wp_sl_l 37 _ _ rfl Try.slVS 42 Try.szVS _ n cap (i) q51 q52 (by omega) ?_
   rw [sliced_at g n cap (i) (by omega)]
   exact hK _ (by show CpI _ _ _ _; rw [bit_set (by decide)]; exact hI)
  rw [if_pos (by rfl)]
  intro K hK
  have q50 := (hdep ⟨4, .data⟩ (by simp) rfl).2 _ rfl _ rfl
  have q50 : a.tmps.getD 50 undef = .slice (some ⟨g2, (i + 1) * 42, none⟩) (n + 1 - (i + 1)) (cp - (i + 1)) := q50
  have q53 := (hdep ⟨7, .data⟩ (by simp) rfl).2 _ rfl _ rfl
  have q53 : a.tmps.getD 53 undef = .slice (some ⟨g, i * 42, none⟩) (n - i) (cap - i) := q53
  have hw2 : w2 = wb.drew := by
   have h : CpI _ _ (listed.getD 8 false) w2 := hI
   rw [hun] at h; unfold CpI at h; rw [if_neg (by decide)] at h; exact h
  subst hw2
  refine wp_copy_bk _ _ 37 37 36 g2 ((i + 1) * 42) (n + 1 - (i + 1)) (cp - (i + 1)) ⟨g, i * 42, none⟩ (n - i) (cap - i) 42 C2 36 (xs.drop (i * 42)) rfl q50 q53 Try.underlying37 Try.sizeVt (HD.out.ext (Below.refl _ _).drew) ?_ (fun j u hu => by rw [Addr.add_lit]; exact (Below.cell (p := ⟨g, i * 42 + j, none⟩) (Ex.trans XB.out (show Ex wb wb.drew from (Below.refl _ _).drew)) GK.out.lt).trans (by rw [GK.out.cell]; rw [List.getElem?_toArray]; rw [← HTK.out, List.getElem?_drop, List.getElem?_take] at hu; split at hu; exact hu; cases hu)) ?_ (fun u hu => H1.out u (List.mem_of_mem_drop hu)) (fun w9 hd ho => ?_)
  ·rw [List.length_drop, HXL.out, ← Nat.sub_mul]; congr 1; simp only [Nat.min_def]; split <;> omega
  ·rw [List.length_drop, HXL.out, ← Nat.sub_mul, HC2.out]; rw [← Nat.add_mul]; exact Nat.mul_le_mul_right _ (by omega)
  rw [show Nat.min (n - i) (n + 1 - (i + 1)) = n - i from by simp only [Nat.min_def]; split <;> omega]
  refine hK _ ?_
  show CpI _ _ _ _
  rw [bit_new (by rw [hls]; decide)]
  unfold CpI; rw [if_pos rfl]
  exact ⟨hd, Md.ex ho.md (Ex.trans XB.out (show Ex wb wb.drew from (Below.refl _ _).drew)) (by rw [HG2.out]; exact Nat.le_refl _)⟩
 intro listed w3 hall hI
 rw [hall 8 (by simp)] at hI
 unfold CpI at hI
 rw [if_pos rfl] at hI
 subst hV
 simp only [putAll, List.getD_cons_zero, List.getD_cons_succ, Act.put, List.setIfInBounds_toArray, List.set_cons_zero, List.set_cons_succ]
 have HF := Hi hI
 clear hI hall
 have HRES : Hid (InsPost xs zs B i n (.slice (some ⟨g, 0, none⟩) n cap) w (.returned (.slice (some ⟨g2, 0, none⟩) (n + 1) cp)) w3) := Hi (by
  have hA : (xs.take (i * 42)).length = i * 42 := by rw [List.length_take, HXL.out]; omega
  have hY : (xs.drop (i * 42)).length = (n - i) * 42 := by rw [List.length_drop, HXL.out, Nat.sub_mul]
  have h42 : (i + 1) * 42 = i * 42 + 42 := Nat.succ_mul i 42
  have hn42 : (n - i) * 42 + i * 42 = n * 42 := by rw [← Nat.add_mul]; congr 1; omega
  have hc42 : (n + 1) * 42 ≤ cp * 42 := Nat.mul_le_mul_right _ hge
  have hsh := take_mid (A := xs.take (i * 42)) (z := zs) (Y := xs.drop (i * 42)) (C := C) (a := i * 42) (b := 42) hA HZL.out HT0.out (by rw [hY, HC1.out]; omega)
  refine ⟨_, rfl, ⟨by simp only [List.length_append, hA, hY, HZL.out]; omega, Or.inr ⟨g2, cp, _, rfl, by rw [HG2.out]; exact HB0.out, HF.out.1, hge, HMX.out, ?_, ?_⟩⟩, Ex.grownBy _ HF.out.2, Or.inr fun x hx => by cases hx; rw [HG2.out]; exact Nat.le_refl _⟩
  ·rw [h42]
   simp only [List.size_toArray, List.length_append, List.length_take, List.length_drop, HC2.out, hY]
   omega
  ·rw [HC2e.out, HZL.out, h42]
   rw [show (n + 1) * 42 = i * 42 + 42 + (xs.drop (i * 42)).length from by rw [hY]; omega]
   exact hsh)
 clear HF
 go_wp2_with fail
 go_ret
 exact HRES.out
end Go.Proofs.Ytmjfnpmnhehnkaa
namespace Go.Proofs.Ytmjfnpmnhehnkaa
open Go.RowKit
structure Sx where
 holds : Value → World → Prop
 stab : ∀ v w w', holds v w → Ex w w' → holds v w'
 fixed : Bool
 fix : fixed = true → ∀ v w w', holds v w → holds v w'
def Sx.is (x : Value) : Sx := ⟨fun v _ => v = x, fun _ _ _ h _ => h, true, fun _ _ _ _ h => h⟩
def Sx.any : Sx := ⟨fun _ _ => True, fun _ _ _ _ _ => trivial, true, fun _ _ _ _ _ => trivial⟩
def Sx.of (H : Value → World → Prop) (st : ∀ v w w', H v w → Ex w w' → H v w') : Sx := ⟨H, st, false, fun h => by cases h⟩
structure JE (base : World) (T : List Sx) (cons : List (Option Nat)) (prs : List (Nat × Nat)) (c1 c2 : Nat) (Fin : World → Prop) (listed : Array Bool) (f : Nat → Value) (w : World) : Prop where
 vals : ∀ i, listed.getD i false = true → (∀ c, cons.getD i none = some c → listed.getD c false = false) → (T.getD i .any).holds (f i) w
 pre : listed.getD c1 false = false → Ex base w
 fin : listed.getD c2 false = true → Fin w
 ord : ∀ x ∈ prs, listed.getD x.1 false = true → listed.getD x.2 false = true
section
variable {base : World} {T : List Sx} {cons : List (Option Nat)} {prs : List (Nat × Nat)} {c1 c2 : Nat} {Fin : World → Prop}
theorem JE.start (listed : Array Bool) (f : Nat → Value) (h0 : ∀ i, listed.getD i false = false) : JE base T cons prs c1 c2 Fin listed f base.drew :=
 ⟨fun i hi => absurd hi (by rw [h0 i]; decide), fun _ => (Below.refl base.heap.size base).drew, fun h => absurd h (by rw [h0 c2]; decide), fun x _ hx => absurd hx (by rw [h0 x.1]; decide)⟩
theorem JE.plain {listed : Array Bool} {f : Nat → Value} {w w' : World} (h : JE base T cons prs c1 c2 Fin listed f w) {i : Nat} (hi : i < listed.size) {v : Value} (hF : ∀ w w', Fin w → Ex w w' → Fin w') (h2 : i ≠ c2) (k : Ex w w') (hv : (T.getD i .any).holds v w') (ho : ∀ x ∈ prs, x.1 = i → listed.getD x.2 false = true) :
  JE base T cons prs c1 c2 Fin (listed.setIfInBounds i true) (upd f i v) w' := by
 have mono : ∀ c, listed.getD c false = true → (listed.setIfInBounds i true).getD c false = true := fun c hc => by
  by_cases e : i = c
  ·subst e; exact set_new hi
  ·rw [gset e false]; exact hc
 refine ⟨fun j hj hcj => ?_, fun hp => Ex.trans (h.pre (set_falseR hp)) k, fun hl => ?_, fun x hx h1 => ?_⟩
 ·by_cases e : j = i
  ·subst e; rw [upd_same]; exact hv
  ·rw [upd_ne _ _ e]
   have hj' : listed.getD j false = true := by
    rcases listed_set hj with rfl | hj
    ·exact absurd rfl e
    ·exact hj
   exact (T.getD j .any).stab _ _ _ (h.vals j hj' (fun c hcc => set_falseR (hcj c hcc))) k
 ·rw [gset h2 false] at hl
  exact hF _ _ (h.fin hl) k
 ·rcases listed_set h1 with e | h1
  ·exact mono _ (ho x hx e)
  ·exact mono _ (h.ord x hx h1)
theorem JE.iw {TT : List Sx} {listed : Array Bool} {f : Nat → Value} {w : World} (h : JE base T cons prs c1 c2 Fin listed f w) (hT : T = TT) {j : Nat} {ops : Array Oper} {tm : Array Value} (hd : listed.getD j false = true ∧ ∀ oj, ops[j]? = some oj → ∀ t, oj.dst = some t → tm.getD t undef = f j) {V : Value} (hV : TT.getD j .any = .is V) (hc : cons.getD j none = none) (oj : Oper) (ho : ops[j]? = some oj) (t : Tmp) (ht : oj.dst = some t) : tm.getD t undef = V := by
 have h1 := h.vals j hd.1 (fun c h9 => by rw [hc] at h9; cases h9)
 rw [hT, hV] at h1
 rw [hd.2 oj ho t ht]; exact h1
theorem JE.iv {TT : List Sx} {listed : Array Bool} {f : Nat → Value} {w : World} (h : JE base T cons prs c1 c2 Fin listed f w) (hT : T = TT) {j : Nat} {ops : Array Oper} {tm : Array Value} (hd : listed.getD j false = true ∧ ∀ oj, ops[j]? = some oj → ∀ t, oj.dst = some t → tm.getD t undef = f j) {V : Value} (hV : TT.getD j .any = .is V) (hc : cons.getD j none = none) (oj : Oper) (ho : ops[j]? = some oj) (t : Tmp) (ht : oj.dst = some t) : tm[t]?.getD undef = V := by
 rw [← Array.getD_eq_getD_getElem?]; exact h.iw hT hd hV hc oj ho t ht
theorem JE.mod {listed : Array Bool} {f : Nat → Value} {w w' : World} (h : JE base T cons prs c1 c2 Fin listed f w) {i : Nat} (hi : i < listed.size) {v : Value} {fx : List Bool} (hfx : T.map Sx.fixed = fx) (hv : (T.getD i .any).holds v w')
  (hc : ∀ j, j ≠ i → fx.getD j true = false → listed.getD j false = true → ∃ c, cons.getD j none = some c ∧ (c = i ∨ listed.getD c false = true))
  (hp : c1 = i ∨ listed.getD c1 false = true) (hf : (listed.setIfInBounds i true).getD c2 false = true → Fin w') (ho : ∀ x ∈ prs, x.1 = i → listed.getD x.2 false = true) :
  JE base T cons prs c1 c2 Fin (listed.setIfInBounds i true) (upd f i v) w' := by
 have new := set_new hi
 have mono : ∀ c, listed.getD c false = true → (listed.setIfInBounds i true).getD c false = true := fun c hc => by
  by_cases e : i = c
  ·subst e; exact new
  ·rw [gset e false]; exact hc
 refine ⟨fun j hj hcj => ?_, fun hp' => ?_, hf, fun x hx h1 => ?_⟩
 ·by_cases e : j = i
  ·subst e; rw [upd_same]; exact hv
  rw [upd_ne _ _ e]
  have hj' : listed.getD j false = true := by
   rcases listed_set hj with rfl | hj
   ·exact absurd rfl e
   ·exact hj
  have hold := h.vals j hj' (fun c hcc => set_falseR (hcj c hcc))
  cases hx : (T.getD j .any).fixed with
  | true => exact (T.getD j .any).fix hx _ _ _ hold
  | false =>
   have ht : fx.getD j true = false := by
    rw [← hfx, List.getD_eq_getElem?_getD, List.getElem?_map]
    rw [List.getD_eq_getElem?_getD] at hx
    cases hT : T[j]? with
    | none => rw [hT] at hx; exact absurd hx (by decide)
    | some s => rw [hT] at hx; exact hx
   obtain ⟨c, hcc, hci⟩ := hc j e ht hj'
   have := hcj c hcc
   rcases hci with rfl | hci
   ·rw [new] at this; cases this
   ·rw [mono c hci] at this; cases this
 ·rcases hp with rfl | hp
  ·rw [new] at hp'; cases hp'
  rw [mono _ hp] at hp'; cases hp'
 rcases listed_set h1 with e | h1
 ·exact mono _ (ho x hx e)
 exact mono _ (h.ord x hx h1)
end
end Go.Proofs.Ytmjfnpmnhehnkaa
