/- Jb, Wa, We -/
import Derived.Test.YtmjfnpmnhehnkaaPap
namespace Go.Proofs.Ytmjfnpmnhehnkaa
open Go.RowKit
def wrongB (id : List UInt8) (g : Int) (r : Rt) : Bool := decide (r.id = id ∧ r.gen = g) && decide (r.why = 23)
def toldB (id : List UInt8) (g : Int) (r : Rt) : Bool := decide (r.id = id ∧ r.gen = g) && decide (r.why = 0 ∧ 0 < r.sec.l.length)
theorem count_next {p : Rt → Bool} {l : List Rt} {k : Nat} {x : Rt} (h : l[k]? = some x) : (l.take (k + 1)).countP p = (l.take k).countP p + (if p x = true then 1 else 0) := by
  rw [List.take_add_one, h, List.countP_append]
  simp [List.countP_cons]
theorem count_le (p : Rt → Bool) (l : List Rt) (k : Nat) : (l.take k).countP p ≤ k := Nat.le_trans List.countP_le_length (by rw [List.length_take]; exact Nat.min_le_left _ _)
theorem Try.sizeI : (Try.prog.info? 32).map (·.size) = some 4 := by kernel_rfl
theorem ld_ib {o : Oper} {a : Act} {w : World} {K : Act → World → Prop} {Q : Exit → Act → World → Prop} (x : Operand) (g : Nat) (id : List UInt8) (hid : id.length = 4) (ho : o.op = .load 32 x) (ha : a.eval x = .pointer (some ⟨g, 0, none⟩)) (h : Bk w g 32 (Lib.byteCells id).toArray) (hk : K (a.put o.dst (digV id)) w) : o.wp Try.prog a w K Q := by
  obtain ⟨dd, hd⟩ : ∃ d, Try.prog.underlying 32 = some d ∧ d.isRow = true := ⟨_, Try.underlying32, rfl⟩
  exact wp_ldp (C := Lib.byteCells id) (Lib.byteCells id) x g 0 dd ho ha h (by rw [List.drop_zero, List.take_length]) hd.1 hd.2 (by rw [Try.sizeI, byteCells_len, hid]) hk
set_option maxHeartbeats 8000000 in
set_option maxRecDepth 100000 in
theorem wrongs_any (id : List UInt8) (gen : Int) (ad : Option Addr) (cap : Nat) (l : List Rt) (w : World) (hid : id.length = 4) (hL : l.length ≤ 9223372036854775807) (hin : Rp.In ad cap l w) : Calls Try.prog 47 #[digV id, .int .u64 gen, .slice ad l.length cap] w fun e w' => e = .returned (.int .i64 (l.countP (wrongB id gen) : Nat)) ∧ Ex w w' := by
  obtain ⟨n, hn⟩ : ∃ n, n = l.length := ⟨_, rfl⟩
  rw [← hn] at hL ⊢
  have HN := Lib.hid hn
  have HIN := Lib.hid hin
  have HID := Lib.hid hid
  obtain ⟨cs, hcs⟩ : ∃ cs, cs = (Lib.byteCells id).toArray := ⟨_, rfl⟩
  have I0 : Hid (Bk (w.alloc (.cells cs 32)) w.heap.size 32 (Lib.byteCells id).toArray) := Lib.hid (by rw [hcs]; exact Bk.new rfl _ _)
  have B0 : Hid (Ex w (w.alloc (.cells cs 32))) := Lib.hid (Ex.alloc _ _)
  rw [show (Calls Try.prog 47 #[digV id, .int .u64 gen, .slice ad n cap] w) = (Calls Try.prog 47 #[.agg cs, .int .u64 gen, .slice ad n cap] w) by rw [hcs]; rfl]
  clear hcs hn hin hid
  go_enter Try.func47, Try.ntmps47
  go_wp2_with fail
  generalize hw1 : w.alloc (.cells cs 32) = w1 at *
  clear hw1
  obtain ⟨B, hB⟩ : ∃ B, B = w.heap.size := ⟨_, rfl⟩
  rw [← hB] at I0 ⊢
  clear hB
  go_loopw [7, 12] (fun c i wr => ∃ k : Nat, k ≤ n ∧ c = .int .i64 ((l.take k).countP (wrongB id gen) : Nat) ∧ i = .int .i64 k ∧ Hid (Ex w1 wr)) (fun _ i _ => n - (intOf i).toNat)
  case atStart => exact ⟨0, by omega, rfl, rfl, Lib.hid (Ex.refl _)⟩
  case round =>
    obtain ⟨k, hk, rfl, rfl, BX⟩ := hrel
    by_cases hlt : k < n
    · obtain ⟨ab, ofs, rfl, ha, hc⟩ := HIN.out.read (by rw [← HN.out]; omega)
      obtain ⟨x, hx⟩ : ∃ x, l[k]? = some x := ⟨_, List.getElem?_eq_getElem (by rw [← HN.out]; exact hlt)⟩
      have HCN := Lib.hid (count_next (p := wrongB id gen) hx)
      have HCL := Lib.hid (count_le (wrongB id gen) l k)
      obtain ⟨c, hc0⟩ : ∃ c, c = (l.take k).countP (wrongB id gen) := ⟨_, rfl⟩
      rw [← hc0] at HCN HCL ⊢
      have hcl := HCL.out
      clear hc0
      have XE : Hid (Ex w wr) := Lib.hid (Ex.trans B0.out BX.out)
      have XOK := Lib.hid (HIN.out.ins k x hx).ok
      have XR : Hid (wr.rangeAt ab (ofs + k * 10) x.C) := Lib.hid (fun j u hu => (Below.cell (p := ⟨ab, ofs + k * 10 + j, none⟩) XE.out ha).trans (hc k x hx j u hu))
      have I1 := Lib.hid (I0.out.ext BX.out)
      clear hc hx ha
      have q0 : (0 : Int) ≤ (k : Int) := by omega
      have q1 : (k : Int) < (n : Int) := by omega
      have q2 : (c : Int) < 9223372036854775807 := by omega
      have q3 : (0 : Int) ≤ (c : Int) := by omega
      go_wp2_with ((with_reducible refine so2 [4000+153] ?_ ?_); (focus rfl))
      (with_reducible refine at9 ?_ ?_); (focus go_simp); refine fun K0 hK => ld_rr _ ab (ofs + k * 10) x XOK.out rfl rfl XR.out (hK _ _ ?_)
      clear hK
      go_wp2_with ((with_reducible refine so2 [4000+153] ?_ ?_); (focus rfl))
      (with_reducible refine at9 ?_ ?_); (focus go_simp); refine fun K0 hK => st_r _ _ wr.heap.size x rfl rfl rfl XOK.out (Bk.new rfl _ _) (by rfl) (fun w3 hd ho => hK _ _ ?_)
      clear hK
      have x3 : Ex wr w3 := ho.below wr.heap.size (Nat.le_refl _) wr (Ex.alloc wr _)
      have HD := Lib.hid hd
      have I2 := Lib.hid (I1.out.ext x3)
      obtain ⟨g, hg⟩ : ∃ g, g = wr.heap.size := ⟨_, rfl⟩
      rw [← hg] at HD ⊢
      replace BX := Lib.hid (Ex.trans BX.out x3)
      clear hd ho hg x3
      obtain ⟨b1, hb1⟩ : ∃ b, b = decide (x.id = id ∧ x.gen = gen) := ⟨_, rfl⟩
      have HB1 := Lib.hid hb1
      obtain ⟨b2, hb2⟩ : ∃ b, b = decide (x.why = 23) := ⟨_, rfl⟩
      have HB2 := Lib.hid hb2
      have HPX : Hid (wrongB id gen x = (b1 && b2)) := Lib.hid (by unfold wrongB; rw [hb1, hb2])
      clear hb1 hb2
      cases b1
      · go_wp2_with fail
        have hS0 : ∀ (listed : Array Bool) (f : Nat → Value), (∀ i, listed.getD i false = false) → Ex w3 w3.drew := fun _ _ _ => (Below.refl w3.heap.size w3).drew
        obtain ⟨T, hT⟩ : ∃ T : List (Value → Prop), T = [(fun zz => zz = x.V), (fun zz => zz = lifeV x.id x.gen), (fun zz => zz = digV id), (fun zz => zz = .int .u64 gen), (fun zz => zz = lifeV id gen), (fun zz => zz = .bool false), (fun zz => zz = .bool false), (fun zz => zz = undef), (fun zz => zz = undef), (fun zz => zz = undef), (fun zz => zz = .bool false)] := ⟨_, rfl⟩
        refine wp_region_gen (JS T ([] : List (Nat × Nat)) (fun _ _ wq => Ex w3 wq)) (by kernel_rfl) (by kernel_rfl) (by kernel_rfl) (fitB_spec (by kernel_rfl)) (fun listed f h => JS.start listed f h (hS0 listed f h)) ?_ ?_
        · intro i o ho
          have hi : i < 11 := (Array.getElem?_eq_some_iff.1 ho).1
          have hi' : i = 0 ∨ i = 1 ∨ i = 2 ∨ i = 3 ∨ i = 4 ∨ i = 5 ∨ i = 6 ∨ i = 7 ∨ i = 8 ∨ i = 9 ∨ i = 10 := by omega
          clear hi
          rcases hi' with rfl | rfl | rfl | rfl | rfl | rfl | rfl | rfl | rfl | rfl | rfl
          all_goals (simp only [List.getElem?_toArray, List.getElem?_cons_zero, List.getElem?_cons_succ, Option.some.injEq] at ho; subst ho; intro listed f a w4 hJ hsz hls hun hdep hout hlat; first | (rw [if_pos (by rfl)]; intro K hK) | skip)
          · have q9 := hout 9 (outB_spec (by kernel_rfl))
            have hord : ∀ x ∈ ([] : List (Nat × Nat)), x.1 = 0 → listed.getD x.2 false = true := by simp
            exact ld_r _ g x rfl q9 (HD.out.ext hJ.st) (hK _ _ (hJ.next (by rw [hls]; decide) (by rw [hT]; rfl) hJ.st hord))
          · have q16 := hJ.is hT (hdep ⟨0, .data⟩ (by simp) rfl) rfl _ rfl _ rfl
            have hord : ∀ x ∈ ([] : List (Nat × Nat)), x.1 = 1 → listed.getD x.2 false = true := by simp
            rw [Array.getD_eq_getD_getElem?] at q16
            clear hsz hdep hout hlat
            go_simp
            refine (of_any x w4 XOK.out).mono ?_
            rintro e wq ⟨rfl, xq⟩
            exact hK _ _ (hJ.next (by rw [hls]; decide) (by rw [hT]; rfl) (Ex.trans hJ.st xq) hord)
          · have q3 := hout 3 (outB_spec (by kernel_rfl))
            have hord : ∀ x ∈ ([] : List (Nat × Nat)), x.1 = 2 → listed.getD x.2 false = true := by simp
            exact ld_ib _ B id HID.out rfl q3 (I2.out.ext hJ.st) (hK _ _ (hJ.next (by rw [hls]; decide) (by rw [hT]; rfl) hJ.st hord))
          · have q1 := hout 1 (outB_spec (by kernel_rfl))
            have hord : ∀ x ∈ ([] : List (Nat × Nat)), x.1 = 3 → listed.getD x.2 false = true := by simp
            refine wp_mv _ rfl (hK _ _ ?_)
            rw [show a.eval (.tmp 1) = .int .u64 gen from q1]
            exact hJ.next (by rw [hls]; decide) (by rw [hT]; rfl) hJ.st hord
          · have q18 := hJ.is hT (hdep ⟨2, .data⟩ (by simp) rfl) rfl _ rfl _ rfl
            have q19 := hJ.is hT (hdep ⟨3, .data⟩ (by simp) rfl) rfl _ rfl _ rfl
            have hord : ∀ x ∈ ([] : List (Nat × Nat)), x.1 = 4 → listed.getD x.2 false = true := by simp
            refine wp_build _ _ rfl _ (by show Try.prog.built 153 [(0, a.tmps.getD 18 undef), (1, a.tmps.getD 19 undef)] = _; rw [q18, q19]; exact built_life id gen HID.out) (hK _ _ (hJ.next (by rw [hls]; decide) (by rw [hT]; rfl) hJ.st hord))
          · have q17 := hJ.is hT (hdep ⟨1, .data⟩ (by simp) rfl) rfl _ rfl _ rfl
            have q20 := hJ.is hT (hdep ⟨4, .data⟩ (by simp) rfl) rfl _ rfl _ rfl
            have hord : ∀ x ∈ ([] : List (Nat × Nat)), x.1 = 5 → listed.getD x.2 false = true := by simp
            exact wp_eql_life _ _ _ rfl x.id id x.gen gen XOK.out.idN HID.out q17 q20 (hK _ _ (hJ.next (by rw [hls]; decide) (by rw [hT]; exact congrArg Value.bool HB1.out.symm) hJ.st hord))
          · have q21 := hJ.is hT (hdep ⟨5, .data⟩ (by simp) rfl) rfl _ rfl _ rfl
            have hord : ∀ x ∈ ([] : List (Nat × Nat)), x.1 = 6 → listed.getD x.2 false = true := by simp
            refine wp_mv _ rfl (hK _ _ ?_)
            rw [show a.eval (.tmp 21) = .bool false from q21]
            exact hJ.next (by rw [hls]; decide) (by rw [hT]; rfl) hJ.st hord
          · have ddg := hdep ⟨6, .guard⟩ (by simp) rfl
            have kg := ddg.2 _ rfl _ rfl
            have hg := hJ.vals 6 ddg.1
            rw [hT] at hg
            rw [show f 6 = .bool false from hg] at kg
            clear hg ddg
            have hord : ∀ x ∈ ([] : List (Nat × Nat)), x.1 = 7 → listed.getD x.2 false = true := by simp
            rw [if_neg (not_wanted rfl rfl rfl kg (by decide))]
            exact hJ.next (by rw [hls]; decide) (by rw [hT]; first | exact trivial | rfl) hJ.st hord
          · have ddg := hdep ⟨6, .guard⟩ (by simp) rfl
            have kg := ddg.2 _ rfl _ rfl
            have hg := hJ.vals 6 ddg.1
            rw [hT] at hg
            rw [show f 6 = .bool false from hg] at kg
            clear hg ddg
            have hord : ∀ x ∈ ([] : List (Nat × Nat)), x.1 = 8 → listed.getD x.2 false = true := by simp
            rw [if_neg (not_wanted rfl rfl rfl kg (by decide))]
            exact hJ.next (by rw [hls]; decide) (by rw [hT]; first | exact trivial | rfl) hJ.st hord
          · have ddg := hdep ⟨6, .guard⟩ (by simp) rfl
            have kg := ddg.2 _ rfl _ rfl
            have hg := hJ.vals 6 ddg.1
            rw [hT] at hg
            rw [show f 6 = .bool false from hg] at kg
            clear hg ddg
            have hord : ∀ x ∈ ([] : List (Nat × Nat)), x.1 = 9 → listed.getD x.2 false = true := by simp
            rw [if_neg (not_wanted rfl rfl rfl kg (by decide))]
            exact hJ.next (by rw [hls]; decide) (by rw [hT]; first | exact trivial | rfl) hJ.st hord
          have q22 := hJ.is hT (hdep ⟨6, .data⟩ (by simp) rfl) rfl _ rfl _ rfl
          have q25 := hJ.is hT (hdep ⟨9, .data⟩ (by simp) rfl) rfl _ rfl _ rfl
          have hord : ∀ x ∈ ([] : List (Nat × Nat)), x.1 = 10 → listed.getD x.2 false = true := by simp
          rw [Array.getD_eq_getD_getElem?] at q22
          rw [Array.getD_eq_getD_getElem?] at q25
          clear hsz hdep hout hlat
          go_simp
          exact hK _ _ (hJ.next (by rw [hls]; decide) (by rw [hT]; first | rfl | exact congrArg (Value.int .i64) (by omega) | exact congrArg (Value.int .i64) (by rw [IntKind.wrap_i64]; omega) | exact congrArg Value.bool (decide_eq_false (by omega)) | exact congrArg Value.bool (decide_eq_true (by omega)) | exact congrArg (Value.int .u64) (by omega)) hJ.st hord)
        intro listed f w4 hall hJ
        have f10 : f 10 = .bool false := by
          have h := hJ.vals 10 (hall 10 (by simp))
          rw [hT] at h; exact h
        have hst := hJ.st
        simp only [putAll, Act.put, List.setIfInBounds_toArray, List.set_cons_zero, List.set_cons_succ, Nat.zero_add, Nat.reduceAdd]
        have x4 : Ex w3 w4 := hst
        replace BX := Lib.hid (Ex.trans BX.out x4)
        clear x4 hst hS0
        rw [f10]
        clear f10
        clear hJ hall hT
        generalize f 0 = y0
        generalize f 1 = y1
        generalize f 2 = y2
        generalize f 3 = y3
        generalize f 4 = y4
        generalize f 5 = y5
        generalize f 6 = y6
        generalize f 7 = y7
        generalize f 8 = y8
        generalize f 9 = y9
        go_wp2_with fail
        go_roundw
        case rel => exact ⟨k + 1, by omega, by rw [HCN.out, HPX.out]; rfl, by go_num, BX⟩
        case measure => simp [intOf]; omega
      go_wp2_with fail
      have hS0 : ∀ (listed : Array Bool) (f : Nat → Value), (∀ i, listed.getD i false = false) → Ex w3 w3.drew := fun _ _ _ => (Below.refl w3.heap.size w3).drew
      obtain ⟨T, hT⟩ : ∃ T : List (Value → Prop), T = [(fun zz => zz = x.V), (fun zz => zz = lifeV x.id x.gen), (fun zz => zz = digV id), (fun zz => zz = .int .u64 gen), (fun zz => zz = lifeV id gen), (fun zz => zz = .bool true), (fun zz => zz = .bool true), (fun zz => zz = .pointer (some ⟨g, 0, none⟩)), (fun zz => zz = .int .i64 x.why), (fun zz => zz = .bool b2), (fun zz => zz = .bool b2)] := ⟨_, rfl⟩
      refine wp_region_gen (JS T ([] : List (Nat × Nat)) (fun _ _ wq => Ex w3 wq)) (by kernel_rfl) (by kernel_rfl) (by kernel_rfl) (fitB_spec (by kernel_rfl)) (fun listed f h => JS.start listed f h (hS0 listed f h)) ?_ ?_
      · intro i o ho
        have hi : i < 11 := (Array.getElem?_eq_some_iff.1 ho).1
        have hi' : i = 0 ∨ i = 1 ∨ i = 2 ∨ i = 3 ∨ i = 4 ∨ i = 5 ∨ i = 6 ∨ i = 7 ∨ i = 8 ∨ i = 9 ∨ i = 10 := by omega
        clear hi
        rcases hi' with rfl | rfl | rfl | rfl | rfl | rfl | rfl | rfl | rfl | rfl | rfl
        all_goals (simp only [List.getElem?_toArray, List.getElem?_cons_zero, List.getElem?_cons_succ, Option.some.injEq] at ho; subst ho; intro listed f a w4 hJ hsz hls hun hdep hout hlat; first | (rw [if_pos (by rfl)]; intro K hK) | skip)
        · have q9 := hout 9 (outB_spec (by kernel_rfl))
          have hord : ∀ x ∈ ([] : List (Nat × Nat)), x.1 = 0 → listed.getD x.2 false = true := by simp
          exact ld_r _ g x rfl q9 (HD.out.ext hJ.st) (hK _ _ (hJ.next (by rw [hls]; decide) (by rw [hT]; rfl) hJ.st hord))
        · have q16 := hJ.is hT (hdep ⟨0, .data⟩ (by simp) rfl) rfl _ rfl _ rfl
          have hord : ∀ x ∈ ([] : List (Nat × Nat)), x.1 = 1 → listed.getD x.2 false = true := by simp
          rw [Array.getD_eq_getD_getElem?] at q16
          clear hsz hdep hout hlat
          go_simp
          refine (of_any x w4 XOK.out).mono ?_
          rintro e wq ⟨rfl, xq⟩
          exact hK _ _ (hJ.next (by rw [hls]; decide) (by rw [hT]; rfl) (Ex.trans hJ.st xq) hord)
        · have q3 := hout 3 (outB_spec (by kernel_rfl))
          have hord : ∀ x ∈ ([] : List (Nat × Nat)), x.1 = 2 → listed.getD x.2 false = true := by simp
          exact ld_ib _ B id HID.out rfl q3 (I2.out.ext hJ.st) (hK _ _ (hJ.next (by rw [hls]; decide) (by rw [hT]; rfl) hJ.st hord))
        · have q1 := hout 1 (outB_spec (by kernel_rfl))
          have hord : ∀ x ∈ ([] : List (Nat × Nat)), x.1 = 3 → listed.getD x.2 false = true := by simp
          refine wp_mv _ rfl (hK _ _ ?_)
          rw [show a.eval (.tmp 1) = .int .u64 gen from q1]
          exact hJ.next (by rw [hls]; decide) (by rw [hT]; rfl) hJ.st hord
        · have q18 := hJ.is hT (hdep ⟨2, .data⟩ (by simp) rfl) rfl _ rfl _ rfl
          have q19 := hJ.is hT (hdep ⟨3, .data⟩ (by simp) rfl) rfl _ rfl _ rfl
          have hord : ∀ x ∈ ([] : List (Nat × Nat)), x.1 = 4 → listed.getD x.2 false = true := by simp
          refine wp_build _ _ rfl _ (by show Try.prog.built 153 [(0, a.tmps.getD 18 undef), (1, a.tmps.getD 19 undef)] = _; rw [q18, q19]; exact built_life id gen HID.out) (hK _ _ (hJ.next (by rw [hls]; decide) (by rw [hT]; rfl) hJ.st hord))
        · have q17 := hJ.is hT (hdep ⟨1, .data⟩ (by simp) rfl) rfl _ rfl _ rfl
          have q20 := hJ.is hT (hdep ⟨4, .data⟩ (by simp) rfl) rfl _ rfl _ rfl
          have hord : ∀ x ∈ ([] : List (Nat × Nat)), x.1 = 5 → listed.getD x.2 false = true := by simp
          exact wp_eql_life _ _ _ rfl x.id id x.gen gen XOK.out.idN HID.out q17 q20 (hK _ _ (hJ.next (by rw [hls]; decide) (by rw [hT]; exact congrArg Value.bool HB1.out.symm) hJ.st hord))
        · have q21 := hJ.is hT (hdep ⟨5, .data⟩ (by simp) rfl) rfl _ rfl _ rfl
          have hord : ∀ x ∈ ([] : List (Nat × Nat)), x.1 = 6 → listed.getD x.2 false = true := by simp
          refine wp_mv _ rfl (hK _ _ ?_)
          rw [show a.eval (.tmp 21) = .bool true from q21]
          exact hJ.next (by rw [hls]; decide) (by rw [hT]; rfl) hJ.st hord
        · have ddg := hdep ⟨6, .guard⟩ (by simp) rfl
          have kg := ddg.2 _ rfl _ rfl
          have hg := hJ.vals 6 ddg.1
          rw [hT] at hg
          rw [show f 6 = .bool true from hg] at kg
          clear hg ddg
          rw [if_pos (wanted_of rfl rfl rfl kg)]
          clear kg
          intro K hK
          have q9 := hout 9 (outB_spec (by kernel_rfl))
          have hord : ∀ x ∈ ([] : List (Nat × Nat)), x.1 = 7 → listed.getD x.2 false = true := by simp
          rw [Array.getD_eq_getD_getElem?] at q9
          clear hsz hdep hout hlat
          go_simp
          exact hK _ _ (hJ.next (by rw [hls]; decide) (by rw [hT]; first | rfl | exact congrArg (Value.int .i64) (by omega) | exact congrArg (Value.int .i64) (by rw [IntKind.wrap_i64]; omega) | exact congrArg Value.bool (decide_eq_false (by omega)) | exact congrArg Value.bool (decide_eq_true (by omega)) | exact congrArg (Value.int .u64) (by omega)) hJ.st hord)
        · have ddg := hdep ⟨6, .guard⟩ (by simp) rfl
          have kg := ddg.2 _ rfl _ rfl
          have hg := hJ.vals 6 ddg.1
          rw [hT] at hg
          rw [show f 6 = .bool true from hg] at kg
          clear hg ddg
          rw [if_pos (wanted_of rfl rfl rfl kg)]
          clear kg
          intro K hK
          have q23 := hJ.is hT (hdep ⟨7, .data⟩ (by simp) rfl) rfl _ rfl _ rfl
          have hord : ∀ x ∈ ([] : List (Nat × Nat)), x.1 = 8 → listed.getD x.2 false = true := by simp
          have c0 := (HD.out.ext hJ.st).cells.1
          rw [Array.getD_eq_getD_getElem?] at q23
          clear hsz hdep hout hlat
          go_simp
          exact hK _ _ (hJ.next (by rw [hls]; decide) (by rw [hT]; rfl) hJ.st hord)
        · have ddg := hdep ⟨6, .guard⟩ (by simp) rfl
          have kg := ddg.2 _ rfl _ rfl
          have hg := hJ.vals 6 ddg.1
          rw [hT] at hg
          rw [show f 6 = .bool true from hg] at kg
          clear hg ddg
          rw [if_pos (wanted_of rfl rfl rfl kg)]
          clear kg
          intro K hK
          have q24 := hJ.is hT (hdep ⟨8, .data⟩ (by simp) rfl) rfl _ rfl _ rfl
          have hord : ∀ x ∈ ([] : List (Nat × Nat)), x.1 = 9 → listed.getD x.2 false = true := by simp
          exact wp_eql_err _ _ _ rfl x.why 23 q24 rfl (hK _ _ (hJ.next (by rw [hls]; decide) (by rw [hT]; exact congrArg Value.bool HB2.out.symm) hJ.st hord))
        have q22 := hJ.is hT (hdep ⟨6, .data⟩ (by simp) rfl) rfl _ rfl _ rfl
        have q25 := hJ.is hT (hdep ⟨9, .data⟩ (by simp) rfl) rfl _ rfl _ rfl
        have hord : ∀ x ∈ ([] : List (Nat × Nat)), x.1 = 10 → listed.getD x.2 false = true := by simp
        rw [Array.getD_eq_getD_getElem?] at q22
        rw [Array.getD_eq_getD_getElem?] at q25
        clear hsz hdep hout hlat
        go_simp
        exact hK _ _ (hJ.next (by rw [hls]; decide) (by rw [hT]; first | rfl | exact congrArg (Value.int .i64) (by omega) | exact congrArg (Value.int .i64) (by rw [IntKind.wrap_i64]; omega) | exact congrArg Value.bool (decide_eq_false (by omega)) | exact congrArg Value.bool (decide_eq_true (by omega)) | exact congrArg (Value.int .u64) (by omega)) hJ.st hord)
      intro listed f w4 hall hJ
      have f10 : f 10 = .bool b2 := by
        have h := hJ.vals 10 (hall 10 (by simp))
        rw [hT] at h; exact h
      have hst := hJ.st
      simp only [putAll, Act.put, List.setIfInBounds_toArray, List.set_cons_zero, List.set_cons_succ, Nat.zero_add, Nat.reduceAdd]
      have x4 : Ex w3 w4 := hst
      replace BX := Lib.hid (Ex.trans BX.out x4)
      clear x4 hst hS0
      rw [f10]
      clear f10
      clear hJ hall hT
      generalize f 0 = y0
      generalize f 1 = y1
      generalize f 2 = y2
      generalize f 3 = y3
      generalize f 4 = y4
      generalize f 5 = y5
      generalize f 6 = y6
      generalize f 7 = y7
      generalize f 8 = y8
      generalize f 9 = y9
      cases b2
      · go_wp2_with fail
        go_roundw
        case rel => exact ⟨k + 1, by omega, by rw [HCN.out, HPX.out]; rfl, by go_num, BX⟩
        case measure => simp [intOf]; omega
      go_wp2_with fail
      go_roundw
      case rel => exact ⟨k + 1, by omega, by rw [HCN.out, HPX.out]; rfl, by go_num, BX⟩
      case measure => simp [intOf]; omega
    obtain rfl : k = n := by omega
    have q1 : ¬ (k : Int) < (k : Int) := by omega
    have HTK : Hid (l.take k = l) := Lib.hid (by rw [HN.out]; exact List.take_length)
    rw [HTK.out]
    clear HTK
    go_wp2_with fail
    go_ret
    exact ⟨rfl, Ex.trans B0.out BX.out⟩
set_option maxHeartbeats 8000000 in
set_option maxRecDepth 100000 in
theorem told_any (id : List UInt8) (gen : Int) (ad : Option Addr) (cap : Nat) (l : List Rt) (w : World) (hid : id.length = 4) (hL : l.length ≤ 9223372036854775807) (hin : Rp.In ad cap l w) : Calls Try.prog 48 #[digV id, .int .u64 gen, .slice ad l.length cap] w fun e w' => e = .returned (.int .i64 (l.countP (toldB id gen) : Nat)) ∧ Ex w w' := by
  obtain ⟨n, hn⟩ : ∃ n, n = l.length := ⟨_, rfl⟩
  rw [← hn] at hL ⊢
  have HN := Lib.hid hn
  have HIN := Lib.hid hin
  have HID := Lib.hid hid
  obtain ⟨cs, hcs⟩ : ∃ cs, cs = (Lib.byteCells id).toArray := ⟨_, rfl⟩
  have I0 : Hid (Bk (w.alloc (.cells cs 32)) w.heap.size 32 (Lib.byteCells id).toArray) := Lib.hid (by rw [hcs]; exact Bk.new rfl _ _)
  have B0 : Hid (Ex w (w.alloc (.cells cs 32))) := Lib.hid (Ex.alloc _ _)
  rw [show (Calls Try.prog 48 #[digV id, .int .u64 gen, .slice ad n cap] w) = (Calls Try.prog 48 #[.agg cs, .int .u64 gen, .slice ad n cap] w) by rw [hcs]; rfl]
  clear hcs hn hin hid
  go_enter Try.func48, Try.ntmps48
  go_wp2_with fail
  generalize hw1 : w.alloc (.cells cs 32) = w1 at *
  clear hw1
  obtain ⟨B, hB⟩ : ∃ B, B = w.heap.size := ⟨_, rfl⟩
  rw [← hB] at I0 ⊢
  clear hB
  go_loopw [7, 12] (fun c i wr => ∃ k : Nat, k ≤ n ∧ c = .int .i64 ((l.take k).countP (toldB id gen) : Nat) ∧ i = .int .i64 k ∧ Hid (Ex w1 wr)) (fun _ i _ => n - (intOf i).toNat)
  case atStart => exact ⟨0, by omega, rfl, rfl, Lib.hid (Ex.refl _)⟩
  case round =>
    obtain ⟨k, hk, rfl, rfl, BX⟩ := hrel
    by_cases hlt : k < n
    · obtain ⟨ab, ofs, rfl, ha, hc⟩ := HIN.out.read (by rw [← HN.out]; omega)
      obtain ⟨x, hx⟩ : ∃ x, l[k]? = some x := ⟨_, List.getElem?_eq_getElem (by rw [← HN.out]; exact hlt)⟩
      have HCN := Lib.hid (count_next (p := toldB id gen) hx)
      have HCL := Lib.hid (count_le (toldB id gen) l k)
      obtain ⟨c, hc0⟩ : ∃ c, c = (l.take k).countP (toldB id gen) := ⟨_, rfl⟩
      rw [← hc0] at HCN HCL ⊢
      have hcl := HCL.out
      clear hc0
      have XE : Hid (Ex w wr) := Lib.hid (Ex.trans B0.out BX.out)
      have XOK := Lib.hid (HIN.out.ins k x hx).ok
      have XR : Hid (wr.rangeAt ab (ofs + k * 10) x.C) := Lib.hid (fun j u hu => (Below.cell (p := ⟨ab, ofs + k * 10 + j, none⟩) XE.out ha).trans (hc k x hx j u hu))
      have I1 := Lib.hid (I0.out.ext BX.out)
      clear hc hx ha
      have q0 : (0 : Int) ≤ (k : Int) := by omega
      have q1 : (k : Int) < (n : Int) := by omega
      have q2 : (c : Int) < 9223372036854775807 := by omega
      have q3 : (0 : Int) ≤ (c : Int) := by omega
      go_wp2_with ((with_reducible refine so2 [4000+153] ?_ ?_); (focus rfl))
      (with_reducible refine at9 ?_ ?_); (focus go_simp); refine fun K0 hK => ld_rr _ ab (ofs + k * 10) x XOK.out rfl rfl XR.out (hK _ _ ?_)
      clear hK
      go_wp2_with ((with_reducible refine so2 [4000+153] ?_ ?_); (focus rfl))
      (with_reducible refine at9 ?_ ?_); (focus go_simp); refine fun K0 hK => st_r _ _ wr.heap.size x rfl rfl rfl XOK.out (Bk.new rfl _ _) (by rfl) (fun w3 hd ho => hK _ _ ?_)
      clear hK
      have x3 : Ex wr w3 := ho.below wr.heap.size (Nat.le_refl _) wr (Ex.alloc wr _)
      have HD := Lib.hid hd
      have I2 := Lib.hid (I1.out.ext x3)
      obtain ⟨g, hg⟩ : ∃ g, g = wr.heap.size := ⟨_, rfl⟩
      rw [← hg] at HD ⊢
      replace BX := Lib.hid (Ex.trans BX.out x3)
      clear hd ho hg x3
      obtain ⟨b1, hb1⟩ : ∃ b, b = decide (x.id = id ∧ x.gen = gen) := ⟨_, rfl⟩
      have HB1 := Lib.hid hb1
      obtain ⟨b2, hb2⟩ : ∃ b, b = decide (x.why = 0 ∧ 0 < x.sec.l.length) := ⟨_, rfl⟩
      have HB2 := Lib.hid hb2
      have HPX : Hid (toldB id gen x = (b1 && b2)) := Lib.hid (by unfold toldB; rw [hb1, hb2])
      clear hb1 hb2
      cases b1
      · go_wp2_with fail
        have hS0 : ∀ (listed : Array Bool) (f : Nat → Value), (∀ i, listed.getD i false = false) → Ex w3 w3.drew := fun _ _ _ => (Below.refl w3.heap.size w3).drew
        obtain ⟨T, hT⟩ : ∃ T : List (Value → Prop), T = [(fun zz => zz = x.V), (fun zz => zz = lifeV x.id x.gen), (fun zz => zz = digV id), (fun zz => zz = .int .u64 gen), (fun zz => zz = lifeV id gen), (fun zz => zz = .bool false), (fun zz => zz = .bool false), (fun zz => zz = undef), (fun zz => zz = undef), (fun zz => zz = .bool false)] := ⟨_, rfl⟩
        refine wp_region_gen (JS T ([] : List (Nat × Nat)) (fun _ _ wq => Ex w3 wq)) (by kernel_rfl) (by kernel_rfl) (by kernel_rfl) (fitB_spec (by kernel_rfl)) (fun listed f h => JS.start listed f h (hS0 listed f h)) ?_ ?_
        · intro i o ho
          have hi : i < 10 := (Array.getElem?_eq_some_iff.1 ho).1
          have hi' : i = 0 ∨ i = 1 ∨ i = 2 ∨ i = 3 ∨ i = 4 ∨ i = 5 ∨ i = 6 ∨ i = 7 ∨ i = 8 ∨ i = 9 := by omega
          clear hi
          rcases hi' with rfl | rfl | rfl | rfl | rfl | rfl | rfl | rfl | rfl | rfl
          all_goals (simp only [List.getElem?_toArray, List.getElem?_cons_zero, List.getElem?_cons_succ, Option.some.injEq] at ho; subst ho; intro listed f a w4 hJ hsz hls hun hdep hout hlat; first | (rw [if_pos (by rfl)]; intro K hK) | skip)
          · have q9 := hout 9 (outB_spec (by kernel_rfl))
            have hord : ∀ x ∈ ([] : List (Nat × Nat)), x.1 = 0 → listed.getD x.2 false = true := by simp
            exact ld_r _ g x rfl q9 (HD.out.ext hJ.st) (hK _ _ (hJ.next (by rw [hls]; decide) (by rw [hT]; rfl) hJ.st hord))
          · have q16 := hJ.is hT (hdep ⟨0, .data⟩ (by simp) rfl) rfl _ rfl _ rfl
            have hord : ∀ x ∈ ([] : List (Nat × Nat)), x.1 = 1 → listed.getD x.2 false = true := by simp
            rw [Array.getD_eq_getD_getElem?] at q16
            clear hsz hdep hout hlat
            go_simp
            refine (of_any x w4 XOK.out).mono ?_
            rintro e wq ⟨rfl, xq⟩
            exact hK _ _ (hJ.next (by rw [hls]; decide) (by rw [hT]; rfl) (Ex.trans hJ.st xq) hord)
          · have q3 := hout 3 (outB_spec (by kernel_rfl))
            have hord : ∀ x ∈ ([] : List (Nat × Nat)), x.1 = 2 → listed.getD x.2 false = true := by simp
            exact ld_ib _ B id HID.out rfl q3 (I2.out.ext hJ.st) (hK _ _ (hJ.next (by rw [hls]; decide) (by rw [hT]; rfl) hJ.st hord))
          · have q1 := hout 1 (outB_spec (by kernel_rfl))
            have hord : ∀ x ∈ ([] : List (Nat × Nat)), x.1 = 3 → listed.getD x.2 false = true := by simp
            refine wp_mv _ rfl (hK _ _ ?_)
            rw [show a.eval (.tmp 1) = .int .u64 gen from q1]
            exact hJ.next (by rw [hls]; decide) (by rw [hT]; rfl) hJ.st hord
          · have q18 := hJ.is hT (hdep ⟨2, .data⟩ (by simp) rfl) rfl _ rfl _ rfl
            have q19 := hJ.is hT (hdep ⟨3, .data⟩ (by simp) rfl) rfl _ rfl _ rfl
            have hord : ∀ x ∈ ([] : List (Nat × Nat)), x.1 = 4 → listed.getD x.2 false = true := by simp
            refine wp_build _ _ rfl _ (by show Try.prog.built 153 [(0, a.tmps.getD 18 undef), (1, a.tmps.getD 19 undef)] = _; rw [q18, q19]; exact built_life id gen HID.out) (hK _ _ (hJ.next (by rw [hls]; decide) (by rw [hT]; rfl) hJ.st hord))
          · have q17 := hJ.is hT (hdep ⟨1, .data⟩ (by simp) rfl) rfl _ rfl _ rfl
            have q20 := hJ.is hT (hdep ⟨4, .data⟩ (by simp) rfl) rfl _ rfl _ rfl
            have hord : ∀ x ∈ ([] : List (Nat × Nat)), x.1 = 5 → listed.getD x.2 false = true := by simp
            exact wp_eql_life _ _ _ rfl x.id id x.gen gen XOK.out.idN HID.out q17 q20 (hK _ _ (hJ.next (by rw [hls]; decide) (by rw [hT]; exact congrArg Value.bool HB1.out.symm) hJ.st hord))
          · have q21 := hJ.is hT (hdep ⟨5, .data⟩ (by simp) rfl) rfl _ rfl _ rfl
            have hord : ∀ x ∈ ([] : List (Nat × Nat)), x.1 = 6 → listed.getD x.2 false = true := by simp
            refine wp_mv _ rfl (hK _ _ ?_)
            rw [show a.eval (.tmp 21) = .bool false from q21]
            exact hJ.next (by rw [hls]; decide) (by rw [hT]; rfl) hJ.st hord
          · have ddg := hdep ⟨6, .guard⟩ (by simp) rfl
            have kg := ddg.2 _ rfl _ rfl
            have hg := hJ.vals 6 ddg.1
            rw [hT] at hg
            rw [show f 6 = .bool false from hg] at kg
            clear hg ddg
            have hord : ∀ x ∈ ([] : List (Nat × Nat)), x.1 = 7 → listed.getD x.2 false = true := by simp
            rw [if_neg (not_wanted rfl rfl rfl kg (by decide))]
            exact hJ.next (by rw [hls]; decide) (by rw [hT]; first | exact trivial | rfl) hJ.st hord
          · have ddg := hdep ⟨6, .guard⟩ (by simp) rfl
            have kg := ddg.2 _ rfl _ rfl
            have hg := hJ.vals 6 ddg.1
            rw [hT] at hg
            rw [show f 6 = .bool false from hg] at kg
            clear hg ddg
            have hord : ∀ x ∈ ([] : List (Nat × Nat)), x.1 = 8 → listed.getD x.2 false = true := by simp
            rw [if_neg (not_wanted rfl rfl rfl kg (by decide))]
            exact hJ.next (by rw [hls]; decide) (by rw [hT]; first | exact trivial | rfl) hJ.st hord
          have q22 := hJ.is hT (hdep ⟨6, .data⟩ (by simp) rfl) rfl _ rfl _ rfl
          have q24 := hJ.is hT (hdep ⟨8, .data⟩ (by simp) rfl) rfl _ rfl _ rfl
          have hord : ∀ x ∈ ([] : List (Nat × Nat)), x.1 = 9 → listed.getD x.2 false = true := by simp
          rw [Array.getD_eq_getD_getElem?] at q22
          rw [Array.getD_eq_getD_getElem?] at q24
          clear hsz hdep hout hlat
          go_simp
          exact hK _ _ (hJ.next (by rw [hls]; decide) (by rw [hT]; first | rfl | exact congrArg (Value.int .i64) (by omega) | exact congrArg (Value.int .i64) (by rw [IntKind.wrap_i64]; omega) | exact congrArg Value.bool (decide_eq_false (by omega)) | exact congrArg Value.bool (decide_eq_true (by omega)) | exact congrArg (Value.int .u64) (by omega)) hJ.st hord)
        intro listed f w4 hall hJ
        have f9 : f 9 = .bool false := by
          have h := hJ.vals 9 (hall 9 (by simp))
          rw [hT] at h; exact h
        have hst := hJ.st
        simp only [putAll, Act.put, List.setIfInBounds_toArray, List.set_cons_zero, List.set_cons_succ, Nat.zero_add, Nat.reduceAdd]
        have x4 : Ex w3 w4 := hst
        replace BX := Lib.hid (Ex.trans BX.out x4)
        clear x4 hst hS0
        rw [f9]
        clear f9
        clear hJ hall hT
        generalize f 0 = y0
        generalize f 1 = y1
        generalize f 2 = y2
        generalize f 3 = y3
        generalize f 4 = y4
        generalize f 5 = y5
        generalize f 6 = y6
        generalize f 7 = y7
        generalize f 8 = y8
        go_wp2_with fail
        go_roundw
        case rel => exact ⟨k + 1, by omega, by rw [HCN.out, HPX.out]; rfl, by go_num, BX⟩
        case measure => simp [intOf]; omega
      go_wp2_with fail
      have hS0 : ∀ (listed : Array Bool) (f : Nat → Value), (∀ i, listed.getD i false = false) → Ex w3 w3.drew := fun _ _ _ => (Below.refl w3.heap.size w3).drew
      obtain ⟨T, hT⟩ : ∃ T : List (Value → Prop), T = [(fun zz => zz = x.V), (fun zz => zz = lifeV x.id x.gen), (fun zz => zz = digV id), (fun zz => zz = .int .u64 gen), (fun zz => zz = lifeV id gen), (fun zz => zz = .bool true), (fun zz => zz = .bool true), (fun zz => zz = x.V), (fun zz => zz = .bool b2), (fun zz => zz = .bool b2)] := ⟨_, rfl⟩
      refine wp_region_gen (JS T ([] : List (Nat × Nat)) (fun _ _ wq => Ex w3 wq)) (by kernel_rfl) (by kernel_rfl) (by kernel_rfl) (fitB_spec (by kernel_rfl)) (fun listed f h => JS.start listed f h (hS0 listed f h)) ?_ ?_
      · intro i o ho
        have hi : i < 10 := (Array.getElem?_eq_some_iff.1 ho).1
        have hi' : i = 0 ∨ i = 1 ∨ i = 2 ∨ i = 3 ∨ i = 4 ∨ i = 5 ∨ i = 6 ∨ i = 7 ∨ i = 8 ∨ i = 9 := by omega
        clear hi
        rcases hi' with rfl | rfl | rfl | rfl | rfl | rfl | rfl | rfl | rfl | rfl
        all_goals (simp only [List.getElem?_toArray, List.getElem?_cons_zero, List.getElem?_cons_succ, Option.some.injEq] at ho; subst ho; intro listed f a w4 hJ hsz hls hun hdep hout hlat; first | (rw [if_pos (by rfl)]; intro K hK) | skip)
        · have q9 := hout 9 (outB_spec (by kernel_rfl))
          have hord : ∀ x ∈ ([] : List (Nat × Nat)), x.1 = 0 → listed.getD x.2 false = true := by simp
          exact ld_r _ g x rfl q9 (HD.out.ext hJ.st) (hK _ _ (hJ.next (by rw [hls]; decide) (by rw [hT]; rfl) hJ.st hord))
        · have q16 := hJ.is hT (hdep ⟨0, .data⟩ (by simp) rfl) rfl _ rfl _ rfl
          have hord : ∀ x ∈ ([] : List (Nat × Nat)), x.1 = 1 → listed.getD x.2 false = true := by simp
          rw [Array.getD_eq_getD_getElem?] at q16
          clear hsz hdep hout hlat
          go_simp
          refine (of_any x w4 XOK.out).mono ?_
          rintro e wq ⟨rfl, xq⟩
          exact hK _ _ (hJ.next (by rw [hls]; decide) (by rw [hT]; rfl) (Ex.trans hJ.st xq) hord)
        · have q3 := hout 3 (outB_spec (by kernel_rfl))
          have hord : ∀ x ∈ ([] : List (Nat × Nat)), x.1 = 2 → listed.getD x.2 false = true := by simp
          exact ld_ib _ B id HID.out rfl q3 (I2.out.ext hJ.st) (hK _ _ (hJ.next (by rw [hls]; decide) (by rw [hT]; rfl) hJ.st hord))
        · have q1 := hout 1 (outB_spec (by kernel_rfl))
          have hord : ∀ x ∈ ([] : List (Nat × Nat)), x.1 = 3 → listed.getD x.2 false = true := by simp
          refine wp_mv _ rfl (hK _ _ ?_)
          rw [show a.eval (.tmp 1) = .int .u64 gen from q1]
          exact hJ.next (by rw [hls]; decide) (by rw [hT]; rfl) hJ.st hord
        · have q18 := hJ.is hT (hdep ⟨2, .data⟩ (by simp) rfl) rfl _ rfl _ rfl
          have q19 := hJ.is hT (hdep ⟨3, .data⟩ (by simp) rfl) rfl _ rfl _ rfl
          have hord : ∀ x ∈ ([] : List (Nat × Nat)), x.1 = 4 → listed.getD x.2 false = true := by simp
          refine wp_build _ _ rfl _ (by show Try.prog.built 153 [(0, a.tmps.getD 18 undef), (1, a.tmps.getD 19 undef)] = _; rw [q18, q19]; exact built_life id gen HID.out) (hK _ _ (hJ.next (by rw [hls]; decide) (by rw [hT]; rfl) hJ.st hord))
        · have q17 := hJ.is hT (hdep ⟨1, .data⟩ (by simp) rfl) rfl _ rfl _ rfl
          have q20 := hJ.is hT (hdep ⟨4, .data⟩ (by simp) rfl) rfl _ rfl _ rfl
          have hord : ∀ x ∈ ([] : List (Nat × Nat)), x.1 = 5 → listed.getD x.2 false = true := by simp
          exact wp_eql_life _ _ _ rfl x.id id x.gen gen XOK.out.idN HID.out q17 q20 (hK _ _ (hJ.next (by rw [hls]; decide) (by rw [hT]; exact congrArg Value.bool HB1.out.symm) hJ.st hord))
        · have q21 := hJ.is hT (hdep ⟨5, .data⟩ (by simp) rfl) rfl _ rfl _ rfl
          have hord : ∀ x ∈ ([] : List (Nat × Nat)), x.1 = 6 → listed.getD x.2 false = true := by simp
          refine wp_mv _ rfl (hK _ _ ?_)
          rw [show a.eval (.tmp 21) = .bool true from q21]
          exact hJ.next (by rw [hls]; decide) (by rw [hT]; rfl) hJ.st hord
        · have ddg := hdep ⟨6, .guard⟩ (by simp) rfl
          have kg := ddg.2 _ rfl _ rfl
          have hg := hJ.vals 6 ddg.1
          rw [hT] at hg
          rw [show f 6 = .bool true from hg] at kg
          clear hg ddg
          rw [if_pos (wanted_of rfl rfl rfl kg)]
          clear kg
          intro K hK
          have q9 := hout 9 (outB_spec (by kernel_rfl))
          have hord : ∀ x ∈ ([] : List (Nat × Nat)), x.1 = 7 → listed.getD x.2 false = true := by simp
          exact ld_r _ g x rfl q9 (HD.out.ext hJ.st) (hK _ _ (hJ.next (by rw [hls]; decide) (by rw [hT]; rfl) hJ.st hord))
        · have ddg := hdep ⟨6, .guard⟩ (by simp) rfl
          have kg := ddg.2 _ rfl _ rfl
          have hg := hJ.vals 6 ddg.1
          rw [hT] at hg
          rw [show f 6 = .bool true from hg] at kg
          clear hg ddg
          rw [if_pos (wanted_of rfl rfl rfl kg)]
          clear kg
          intro K hK
          have q23 := hJ.is hT (hdep ⟨7, .data⟩ (by simp) rfl) rfl _ rfl _ rfl
          have hord : ∀ x ∈ ([] : List (Nat × Nat)), x.1 = 8 → listed.getD x.2 false = true := by simp
          rw [Array.getD_eq_getD_getElem?] at q23
          clear hsz hdep hout hlat
          go_simp
          refine (tells_any x w4 XOK.out).mono ?_
          rintro e wq ⟨rfl, xq⟩
          exact hK _ _ (hJ.next (by rw [hls]; decide) (by rw [hT]; exact congrArg Value.bool HB2.out.symm) (Ex.trans hJ.st xq) hord)
        have q22 := hJ.is hT (hdep ⟨6, .data⟩ (by simp) rfl) rfl _ rfl _ rfl
        have q24 := hJ.is hT (hdep ⟨8, .data⟩ (by simp) rfl) rfl _ rfl _ rfl
        have hord : ∀ x ∈ ([] : List (Nat × Nat)), x.1 = 9 → listed.getD x.2 false = true := by simp
        rw [Array.getD_eq_getD_getElem?] at q22
        rw [Array.getD_eq_getD_getElem?] at q24
        clear hsz hdep hout hlat
        go_simp
        exact hK _ _ (hJ.next (by rw [hls]; decide) (by rw [hT]; first | rfl | exact congrArg (Value.int .i64) (by omega) | exact congrArg (Value.int .i64) (by rw [IntKind.wrap_i64]; omega) | exact congrArg Value.bool (decide_eq_false (by omega)) | exact congrArg Value.bool (decide_eq_true (by omega)) | exact congrArg (Value.int .u64) (by omega)) hJ.st hord)
      intro listed f w4 hall hJ
      have f9 : f 9 = .bool b2 := by
        have h := hJ.vals 9 (hall 9 (by simp))
        rw [hT] at h; exact h
      have hst := hJ.st
      simp only [putAll, Act.put, List.setIfInBounds_toArray, List.set_cons_zero, List.set_cons_succ, Nat.zero_add, Nat.reduceAdd]
      have x4 : Ex w3 w4 := hst
      replace BX := Lib.hid (Ex.trans BX.out x4)
      clear x4 hst hS0
      rw [f9]
      clear f9
      clear hJ hall hT
      generalize f 0 = y0
      generalize f 1 = y1
      generalize f 2 = y2
      generalize f 3 = y3
      generalize f 4 = y4
      generalize f 5 = y5
      generalize f 6 = y6
      generalize f 7 = y7
      generalize f 8 = y8
      cases b2
      · go_wp2_with fail
        go_roundw
        case rel => exact ⟨k + 1, by omega, by rw [HCN.out, HPX.out]; rfl, by go_num, BX⟩
        case measure => simp [intOf]; omega
      go_wp2_with fail
      go_roundw
      case rel => exact ⟨k + 1, by omega, by rw [HCN.out, HPX.out]; rfl, by go_num, BX⟩
      case measure => simp [intOf]; omega
    obtain rfl : k = n := by omega
    have q1 : ¬ (k : Int) < (k : Int) := by omega
    have HTK : Hid (l.take k = l) := Lib.hid (by rw [HN.out]; exact List.take_length)
    rw [HTK.out]
    clear HTK
    go_wp2_with fail
    go_ret
    exact ⟨rfl, Ex.trans B0.out BX.out⟩
end Go.Proofs.Ytmjfnpmnhehnkaa
namespace Go.Proofs.Ytmjfnpmnhehnkaa
open Go.RowKit
end Go.Proofs.Ytmjfnpmnhehnkaa
namespace Go.Proofs.Ytmjfnpmnhehnkaa
open Go.RowKit
theorem Rc.eq_iff (a b : Rc) : a = b ↔ (a.why = b.why ∧ a.id = b.id ∧ a.gen = b.gen ∧ a.left = b.left ∧ a.sec = b.sec ∧ a.client = b.client ∧ a.num = b.num) := by
 cases a; cases b; simp
instance : DecidableEq Rc := fun a b => decidable_of_iff _ (Rc.eq_iff a b).symm
end Go.Proofs.Ytmjfnpmnhehnkaa
