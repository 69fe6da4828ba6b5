/- Si -/
import Derived.Test.YtmjfnpmnhehnkaaZaw
namespace Go.Proofs.Ytmjfnpmnhehnkaa
open Go.RowKit
theorem tmod90 (n : Int) : -9223372036854775808 ≤ n.tmod 90 ∧ n.tmod 90 ≤ 9223372036854775807 := by
  have h1 := Int.tmod_lt_of_pos n (show (0 : Int) < 90 by decide)
  have h2 := Int.lt_tmod_of_pos n (show (0 : Int) < 90 by decide)
  omega
theorem mb_new (w : World) : MB (w.alloc (.map #[] 0)) w.heap.size [] := ⟨⟨#[], 0, by unfold World.alloc; exact Array.getElem?_push_size, rfl⟩, (fun p hp => by cases hp), List.nodup_nil⟩
theorem MB.kt {w w' : World} {b B : Nat} {ps : List (List UInt8 × Vt)} (h : MB w b ps) (k : w.grownBy w' (some b)) (hB : B ≤ b) : Kt [] B w w' := by
  obtain ⟨es, c, h1, _⟩ := h.ex
  have hb := (Array.getElem?_eq_some_iff.1 h1).1
  refine ⟨(Below.refl B w).grown k (by omega) (fun g hg => by cases hg; exact hB), fun i cs t fr hi _ => ?_⟩
  have hl := (Array.getElem?_eq_some_iff.1 hi).1
  rw [k.block i hl (fun e => by cases e; rw [h1] at hi; cases hi)]; exact hi
theorem SS.kts {S : List Nat} {B' : Nat} {w w' : World} {B M : Nat} {m n : Int} {p : Nat → Pa} {D : Nat → Nat} {r : Nat → Value} {v : Nat → List Vt} (h : SS w B M m n p D r v) (k : Kt S B' w w') (h0 : 115 ∉ S) (h1 : 169 ∉ S) (h2 : 36 ∉ S) (h3 : 5 ∉ S) : SS w' B M m n p D r v := ⟨k.bk h.blk h0, h.ts.kts k h1 h2 h3, h.ok, h.mok⟩
structure KI (w0 w : World) (M : Nat) (D : Nat → Nat) (r : Nat → Value) (v : Nat → List Vt) (ps : List (List UInt8 × Vt)) (mb g5 : Nat) : Prop where
  ss : SS w w0.heap.size M 0 1 (newP 0 1) D r v
  mp : MB w mb ps
  cnt : Bk w g5 66 (cntC v).toArray
  tv : ∀ q, q ∈ ps → TVN w q.2
  rel : KRel v ps
  ex : Ex w0 w
  lm : w0.heap.size ≤ mb
  lg : w0.heap.size ≤ g5
theorem KI.ext {w0 w w' : World} {M : Nat} {D : Nat → Nat} {r : Nat → Value} {v : Nat → List Vt} {ps : List (List UInt8 × Vt)} {mb g5 : Nat} (h : KI w0 w M D r v ps mb g5) (k : Ex w w') : KI w0 w' M D r v ps mb g5 :=
  ⟨h.ss.ext k, h.mp.ext (k.block mb h.mp.lt), h.cnt.ext k, fun q hq => (h.tv q hq).ext k, h.rel, Ex.trans h.ex k, h.lm, h.lg⟩
/-- what stays where a table is turned -/
theorem KI.tc {w0 w w' : World} {M : Nat} {D : Nat → Nat} {r : Nat → Value} {v : Nat → List Vt} {ps : List (List UInt8 × Vt)} {mb g5 s : Nat} (h : KI w0 w M D r v ps mb g5) (hs : s < 16) (k : Tc (D s) (r s).ownBlock w w') : MB w' mb ps ∧ Bk w' g5 66 (cntC v).toArray ∧ (∀ q, q ∈ ps → TVN w' q.2) ∧ Ex w0 w' := by
  have ht := h.ss.ts.tb s hs
  refine ⟨h.mp.ext (k.block mb h.mp.lt (fun e => ?_) (fun e => ?_)), k.kt9 ht h.cnt (by decide) (by decide), fun q hq => (h.tv q hq).tc9 k ht, k.ex9 ht h.ex (h.ss.ts.lo s hs)⟩
  · obtain ⟨es, c, h1, _⟩ := h.mp.ex
    have h2 := ht.blk
    unfold Bk at h2; rw [← e, h1] at h2; cases h2
  rcases ht.row.blk with h3 | ⟨gb, h3, _, _, cs, hb⟩
  · rw [h3] at e; cases e
  rw [h3] at e; cases e
  obtain ⟨es, c, h1, _⟩ := h.mp.ex
  unfold Bk at hb; rw [h1] at hb; cases hb
def rkK (y : Vt) : Rk := ⟨1, 0, 0, 0, y, none, 0, []⟩
set_option maxRecDepth 100000 in
theorem built_rkK (y : Vt) (h : y.Ok) : Try.prog.built 39 [(0, .int .i64 1), (4, y.V)] = some (rkK y).C.toArray := by
  obtain ⟨id, gen, pin, sec, lim, used, own, gone, wiped⟩ := y
  obtain ⟨id0, id1, id2, id3, rfl⟩ := len4 h.idN
  obtain ⟨_, _, _, _, _, _, _, _, _, _, _, _, _, _, _, _, rfl⟩ := len16 h.pinN
  obtain ⟨_, _, _, _, _, _, _, _, _, _, _, _, _, _, _, _, rfl⟩ := len16 h.ownN
  kernel_rfl
theorem rkK_in {w : World} {y : Vt} (h : VI w y) : (rkK y).In w := ⟨by unfold rkK i64; simp only; omega, by unfold rkK i64; simp only; omega, by unfold rkK i64; simp only; omega, by unfold rkK; simp only; omega, h, ⟨Nat.le_refl _, fun _ => rfl, fun i x hx => by simp [rkK] at hx, fun h => absurd h (Nat.lt_irrefl 0)⟩, Nat.zero_le _, fun i x hx => by simp [rkK] at hx⟩
theorem rkK_keep {y : Vt} (h : y.ct.right = true) : (rkK y).keepR := ⟨h, rfl, rfl, rfl, rfl⟩
theorem newP01 (i : Nat) : newP 0 1 i = ⟨1, 1, 0⟩ := by unfold newP; rw [if_pos (Int.emod_one _)]
theorem ckE01 (i : Nat) (b : Bool) (n : Nat) : ckE (newP 0 1 i) b n = if b = false ∧ 4 ≤ n then 13 else 0 := by rw [newP01]; unfold ckE; simp
theorem putrel_len {vs : List Vt} {x : Vt} {ls : List Vt} (h : PutRel vs x ls) (hr : x.ct.right = true) : (¬ NotIn vs (idn x.id) → ls.length = vs.length) ∧ (NotIn vs (idn x.id) → ¬ vs.length = 4 → ls.length = vs.length + 1) := by
  rcases h with ⟨h1, _⟩ | ⟨_, p, z, hb, _, ⟨h1, h2, rfl⟩ | ⟨h1, h2, rfl⟩ | ⟨h1, h2, rfl⟩⟩
  · rw [h1] at hr; cases hr
  · exact ⟨fun _ => List.length_set .., fun h => absurd ⟨p, h1, h2⟩ h⟩
  · exact ⟨fun h => absurd h1 h, fun _ h => absurd h2 h⟩
  refine ⟨fun h => absurd h1 h, fun _ _ => ?_⟩
  rw [List.length_append, List.length_cons, List.length_take, List.length_drop]; have := hb.1; omega
theorem getdet_of {w : World} {D : Nat} {rv : Value} {vs : List Vt} (ht : TB w D rv vs) {i : Nat} {u : Vt} (h : vs[i]? = some u) : GetDet vs (idn u.id) u.ct true := by
  have hi := (List.getElem?_eq_some_iff.1 h).1
  have e := idF_at vs i u h
  exact ⟨(decide_eq_true ⟨i, hi, e⟩).symm, fun _ => ⟨i, u, h, e, rfl⟩, fun h => by cases h⟩
def GV9 (z : Value) (w : World) : Prop := ∃ y : Vt, z = y.V ∧ TVN w y ∧ y.ct.right = true
def FV9 (cs : Array Value) (w : World) : Prop := ∃ y : Vt, cs = y.C.toArray ∧ TVN w y ∧ y.ct.right = true
theorem GV9.ext : ∀ v a b, GV9 v a → Ex a b → GV9 v b := fun _ _ _ ⟨y, h1, h2, h3⟩ k => ⟨y, h1, h2.ext k, h3⟩
theorem FV9.ext : ∀ v a b, FV9 v a → Ex a b → FV9 v b := fun _ _ _ ⟨y, h1, h2, h3⟩ k => ⟨y, h1, h2.ext k, h3⟩
set_option maxHeartbeats 8000000 in
set_option maxRecDepth 100000 in
theorem keeps_any (ad : Option Addr) (cap : Nat) (l : List Kv) (w : World) (hL : l.length ≤ 9223372036854775807) (hin : Kvp.In ad cap l w) : Calls Try.prog 7 #[.slice ad l.length cap] w fun e w' => e = .returned (.bool true) ∧ Ex w w' := by
  have HIN := Hi hin
  obtain ⟨n, hn⟩ : ∃ n, n = l.length := ⟨_, rfl⟩
  rw [← hn] at hL ⊢
  have HN := Hi hn
  clear hn hin
  go_enter Try.func7, Try.ntmps7
  go_wp2_with fail
  refine (snew_any 0 1 w (by decide)).mono ?_
  rintro e w1 ⟨M, D, r, v, rfl, h1, h2, h3, h4⟩
  have HS := Hi h1
  have BW := Hi h4
  have HV := Hi h3
  clear h1 h2 h3 h4
  go_wp2_with fail
  rw [show (Instr.makeMap 65 none).run Try.prog w1 = .ok (.map (some w1.heap.size)) (w1.alloc (.map #[] 0)) from rfl]
  simp only [Result.andThen]
  rw [Oper.upon_value]
  go_wp2_with fail
  change Code.wp _ _ _ _ ((w1.alloc (.map #[] 0)).alloc (.cells (cntC (fun _ => [])).toArray 66))
  have K0 : Hid (KI w ((w1.alloc (.map #[] 0)).alloc (.cells (cntC (fun _ => [])).toArray 66)) M D r v [] w1.heap.size (w1.heap.size + 1)) := Hi (by
    have xa : Ex w1 (w1.alloc (.map #[] 0)) := Ex.alloc _ _
    have xb : Ex (w1.alloc (.map #[] 0)) ((w1.alloc (.map #[] 0)).alloc (.cells (cntC (fun _ => [])).toArray 66)) := Ex.alloc _ _
    have hsz : w.heap.size ≤ w1.heap.size := Below.size BW.out
    refine ⟨HS.out.ext (Ex.trans xa xb), (mb_new w1).ext (xb.block _ (by unfold World.alloc; simp)), ?_, (fun q hq => by cases hq), KRel.nil HV.out, Ex.trans BW.out (Ex.trans xa xb), hsz, by omega⟩
    have e : cntC v = cntC (fun _ => []) := by
      unfold cntC
      apply List.map_congr_left
      intro i hi
      rw [HV.out i (List.mem_range.1 hi)]
    rw [e]
    exact Bk.new (by unfold World.alloc; simp) _ _)
  generalize hw2 : ((w1.alloc (.map #[] 0)).alloc (.cells (cntC (fun _ => [])).toArray 66)) = w2 at *
  obtain ⟨mb, hmb⟩ : ∃ m, m = w1.heap.size := ⟨_, rfl⟩
  obtain ⟨g5, hg5⟩ : ∃ m, m = w1.heap.size + 1 := ⟨_, rfl⟩
  rw [← hg5, ← hmb] at K0
  rw [← hmb]
  clear hw2 BW HS HV
  have hg6 : mb + 1 = g5 := by omega
  try rw [hg6]
  clear hmb hg5 hg6
  go_loopw [6] (fun i wr => ∃ (k : Nat) (r : Nat → Value) (v : Nat → List Vt) (ps : List (List UInt8 × Vt)), k ≤ n ∧ k ≤ 60 ∧ i = .int .i64 k ∧ Hid (KI w wr M D r v ps mb g5)) (fun i _ => 60 - (intOf i).toNat)
  case atStart => exact ⟨0, r, v, [], by omega, by omega, rfl, K0⟩
  clear K0 r v
  obtain ⟨k, r, v, ps, hk, hk60, rfl, KK⟩ := hrel
  go_upto_region 7 with fail
  go_cut [31] (fun s31 wd => ∃ b : Bool, s31 = .bool b ∧ (b = true → k < n ∧ k < 60) ∧ wd = wr)
  case first =>
    by_cases h1 : k < n
    · have q1 : (k : Int) < (n : Int) := by omega
      by_cases h2 : k < 60
      · have q2 : (k : Int) < 60 := by omega
        go_wp2_with fail
        go_meet
        case rel => exact ⟨_, rfl, fun _ => ⟨h1, h2⟩, rfl⟩
      have q2 : ¬ (k : Int) < 60 := by omega
      go_wp2_with fail
      go_meet
      case rel => exact ⟨_, rfl, fun h => (by cases h), rfl⟩
    have q1 : ¬ (k : Int) < (n : Int) := by omega
    go_wp2_with fail
    go_meet
    case rel => exact ⟨_, rfl, fun h => (by cases h), rfl⟩
  obtain ⟨bb, rfl, hbb, rfl⟩ := hcut
  cases bb
  · clear hbb
    go_wp2_with fail
    go_loopw [12, 13] (fun t12 t13 wq => ∃ j : Nat, j ≤ 16 ∧ t13 = .int .i64 j ∧ t12 = .int .i64 ((allV v j).length : Int) ∧ Hid (Ex wc wq)) (fun _ t13 _ => 16 - (intOf t13).toNat)
    case atStart => exact ⟨0, by omega, rfl, rfl, Hi (Ex.refl _)⟩
    obtain ⟨j, hj, rfl, rfl, BX⟩ := hrel
    by_cases hjt : j < 16
    rotate_left
    · obtain rfl : j = 16 := by omega
      obtain ⟨es, clock, hmp, hsz⟩ := (KK.out.ext BX.out).mp.size
      rw [← KK.out.rel.n] at hsz
      obtain ⟨tot, htot⟩ : ∃ t, t = (allV v 16).length := ⟨_, rfl⟩
      rw [← htot] at hsz ⊢
      have hlm := run_len_map (P := Try.prog) (w := wr) 65 3 mb es clock (by kernel_rfl) hmp
      rw [hsz] at hlm
      clear htot hmp hsz
      go_wp2_with fail
      refine (known16 wr).mono ?_
      rintro e w9 ⟨rfl, x9⟩
      have Z := Hi (Ex.trans (Ex.trans KK.out.ex BX.out) x9)
      clear x9
      go_wp2_with fail
      go_ret
      exact ⟨rfl, Z.out⟩
    have j0 : (0 : Int) ≤ (j : Int) := by omega
    have j1 : (j : Int) < 16 := by omega
    have hal : (allV v j).length ≤ 64 := by have := allV_len v (fun i hi => (KK.out.ss.ts.tb i hi).len) j hj; omega
    have HAS : Hid ((allV v (j + 1)).length = (allV v j).length + (v j).length) := Hi (by rw [allV_succ, List.length_append])
    have hvj : (v j).length ≤ 4 := (KK.out.ss.ts.tb j hjt).len
    obtain ⟨a, ha⟩ : ∃ a, a = (allV v j).length := ⟨_, rfl⟩
    rw [← ha] at hal HAS ⊢
    clear ha
    go_wp2_with fail
    refine (svaults_any w.heap.size M 0 1 (newP 0 1) D r v j hjt wr (KK.out.ss.ext BX.out)).mono ?_
    rintro e w2 ⟨x9, ys, rfl, hrow, hct, x2⟩
    obtain ⟨ad9, cap9, e9, hvin⟩ := hrow.inn
    subst e9
    have hlen : ys.length = (v j).length := by have := congrArg List.length hct; simpa using this
    obtain ⟨m, hm⟩ : ∃ m, m = (v j).length := ⟨_, rfl⟩
    rw [← hm] at hlen hvj HAS
    rw [hlen]
    have HM := Hi hm
    have HYL := Hi hlen
    have HRO := Hi hrow
    have HVI := Hi hvin
    have HCT := Hi hct
    replace BX := Hi (Ex.trans BX.out x2)
    clear hrow hct x2 hvin hm hlen
    go_wp2_with fail
    go_loopw [12, 99] (fun t12 t99 wq => ∃ i : Nat, i ≤ m ∧ t99 = .int .i64 i ∧ t12 = .int .i64 ((a : Int) + (i : Int)) ∧ Hid (Ex w2 wq)) (fun _ t99 _ => m - (intOf t99).toNat)
    case atStart => exact ⟨0, by omega, rfl, by go_num, Hi (Ex.refl _)⟩
    obtain ⟨i, hi, rfl, rfl, BI⟩ := hrel
    by_cases hit : i < m
    rotate_left
    · obtain rfl : i = m := by omega
      have i1 : ¬ (i : Int) < (i : Int) := by omega
      replace BX := Hi (Ex.trans BX.out BI.out)
      go_wp2_with fail
      go_roundw
      case rel => exact ⟨j + 1, by omega, by go_num, by rw [HAS.out]; first | rfl | go_num, BX⟩
      case measure => simp [intOf]; omega
    obtain ⟨y, hy⟩ : ∃ y, ys[i]? = some y := ⟨_, List.getElem?_eq_getElem (by rw [HYL.out]; exact hit)⟩
    obtain ⟨u, hu⟩ : ∃ u, (v j)[i]? = some u := ⟨_, List.getElem?_eq_getElem (by rw [← HM.out]; exact hit)⟩
    have hcu : y.ct = u.ct := by have e := congrArg (fun L => L[i]?) HCT.out; simp only [List.getElem?_map, hy, hu, Option.map_some] at e; exact Option.some.inj e
    have hidu : y.id = u.id := congrArg Vc.id hcu
    obtain ⟨h4, hsh, z, hz, hzc⟩ := KK.out.rel.a j hjt u (List.mem_of_getElem? hu)
    rw [← hidu] at h4 hsh hz
    have hdet := getdet_of (KK.out.ss.ts.tb j hjt) hu
    rw [← hidu, ← hcu] at hdet
    rw [← hcu] at hzc
    clear hcu hidu hu
    have KW := Hi ((KK.out.ext BX.out).ext BI.out)
    have YT := Hi ((HRO.out.ins i y hy).ext BI.out)
    obtain ⟨ab, ofs, rfl, hab, hra⟩ := (HVI.out.ext BI.out).read (by rw [HYL.out]; omega)
    have YR := Hi (hra i y hy)
    have HDT := Hi hdet
    have HZ := Hi hz
    have HZC := Hi hzc
    have HSH := Hi hsh
    have H4 := Hi h4
    clear hdet hz hzc hsh h4 hra hab hy
    have i0 : (0 : Int) ≤ (i : Int) := by omega
    have i1 : (i : Int) < (m : Int) := by omega
    go_wp2_with (first | ((with_reducible refine so0 ?_ ?_); (focus rfl)) | (with_reducible refine stop_lk ?_))
    refine at9 (by go_simp) fun K0 hK => ld_vr _ ab (ofs + i * 42) y YT.out.ok rfl rfl YR.out (hK _ _ ?_)
    clear hK
    go_wp2_with (first | ((with_reducible refine so0 ?_ ?_); (focus rfl)) | (with_reducible refine stop_lk ?_))
    refine at9 (by go_simp) fun K0 hK => st_v _ _ wr.heap.size y rfl rfl rfl YT.out.ok (Bk.new rfl _ _) (by rfl) (fun w3 hd ho => hK _ _ ?_)
    clear hK
    have x3 : Ex wr w3 := ho.below wr.heap.size (Nat.le_refl _) wr (Ex.alloc wr _)
    obtain ⟨g1, hg⟩ : ∃ g, g = wr.heap.size := ⟨_, rfl⟩
    rw [← hg] at hd ⊢
    have HY := Hi hd
    replace KW := Hi (KW.out.ext x3)
    replace YT := Hi (YT.out.ext x3)
    replace BI := Hi (Ex.trans BI.out x3)
    clear hd ho hg x3 YR
    go_wp2_with (first | ((with_reducible refine so0 ?_ ?_); (focus rfl)) | (with_reducible refine stop_lk ?_))
    refine at9 (by go_simp) fun K0 hK => ld_vid _ g1 y rfl rfl HY.out (hK _ _ ?_)
    clear hK
    go_wp2_with (first | ((with_reducible refine so0 ?_ ?_); (focus rfl)) | (with_reducible refine stop_lk ?_))
    refine at9 (by go_simp) fun K0 hK => wp_lk _ _ rfl mb ps KW.out.mp y.id z H4.out HZ.out rfl rfl (hK _ _ ?_)
    clear hK
    go_wp2_with (first | ((with_reducible refine so0 ?_ ?_); (focus rfl)) | (with_reducible refine stop_lk ?_))
    have ZT := Hi (KW.out.tv _ HZ.out)
    refine at9 (by go_simp) fun K0 hK => st_v _ _ w3.heap.size z rfl rfl rfl ZT.out.ok (Bk.new rfl _ _) (by rfl) (fun w4 hd ho => hK _ _ ?_)
    clear hK
    have x4 : Ex w3 w4 := ho.below w3.heap.size (Nat.le_refl _) w3 (Ex.alloc w3 _)
    obtain ⟨g2, hg⟩ : ∃ g, g = w3.heap.size := ⟨_, rfl⟩
    rw [← hg] at hd ⊢
    have HZB := Hi hd
    replace KW := Hi (KW.out.ext x4)
    replace YT := Hi (YT.out.ext x4)
    replace HY := Hi (HY.out.ext x4)
    replace ZT := Hi (ZT.out.ext x4)
    replace BI := Hi (Ex.trans BI.out x4)
    clear hd ho hg x4
    go_wp2_with (first | ((with_reducible refine so0 ?_ ?_); (focus rfl)) | (with_reducible refine stop_lk ?_))
    refine at9 (by go_simp) fun K0 hK => ld_vid _ g1 y rfl rfl HY.out (hK _ _ ?_)
    clear hK
    go_wp2_with (first | ((with_reducible refine so0 ?_ ?_); (focus rfl)) | (with_reducible refine stop_lk ?_))
    refine (sget_any w.heap.size M 0 1 (newP 0 1) D r v y.id H4.out j HSH.out hjt y.ct true HDT.out w4 KW.out.ss).mono ?_
    rintro e w5 ⟨x, rfl, hxc, hxt, x5⟩
    have XT := Hi hxt
    have HXC := Hi hxc
    replace KW := Hi (KW.out.ext x5)
    replace YT := Hi (YT.out.ext x5)
    replace HY := Hi (HY.out.ext x5)
    replace HZB := Hi (HZB.out.ext x5)
    replace ZT := Hi (ZT.out.ext x5)
    replace BI := Hi (Ex.trans BI.out x5)
    clear x5 hxt hxc
    go_wp2_with (first | ((with_reducible refine so0 ?_ ?_); (focus rfl)) | (with_reducible refine stop_lk ?_))
    refine at9 (by go_simp) fun K0 hK => st_v _ _ w5.heap.size x rfl rfl rfl XT.out.ok (Bk.new rfl _ _) (by rfl) (fun w6 hd ho => hK _ _ ?_)
    clear hK
    have x6 : Ex w5 w6 := ho.below w5.heap.size (Nat.le_refl _) w5 (Ex.alloc w5 _)
    obtain ⟨g3, hg⟩ : ∃ g, g = w5.heap.size := ⟨_, rfl⟩
    rw [← hg] at hd ⊢
    have HXB := Hi hd
    replace KW := Hi (KW.out.ext x6)
    replace YT := Hi (YT.out.ext x6)
    replace HY := Hi (HY.out.ext x6)
    replace HZB := Hi (HZB.out.ext x6)
    replace ZT := Hi (ZT.out.ext x6)
    replace XT := Hi (XT.out.ext x6)
    replace BI := Hi (Ex.trans BI.out x6)
    clear hd ho hg x6
    go_wp2_with (first | ((with_reducible refine so0 ?_ ?_); (focus rfl)) | (with_reducible refine stop_lk ?_))
    refine at9 (by go_simp) fun K0 hK => ld_v _ g1 y rfl rfl HY.out (hK _ _ ?_)
    clear hK
    go_wp2_with (first | ((with_reducible refine so0 ?_ ?_); (focus rfl)) | (with_reducible refine stop_lk ?_))
    refine at9 (by go_simp) fun K0 hK => ld_v _ g2 z rfl rfl HZB.out (hK _ _ ?_)
    clear hK
    go_wp2_with (first | ((with_reducible refine so0 ?_ ?_); (focus rfl)) | (with_reducible refine stop_lk ?_))
    have CS := rsame_any y z w6 YT.out.vi ZT.out.vi
    rw [decide_eq_true HZC.out.symm] at CS
    refine CS.mono ?_
    rintro e w7 ⟨rfl, x7⟩
    replace KW := Hi (KW.out.ext x7)
    replace YT := Hi (YT.out.ext x7)
    replace HY := Hi (HY.out.ext x7)
    replace HZB := Hi (HZB.out.ext x7)
    replace HXB := Hi (HXB.out.ext x7)
    replace ZT := Hi (ZT.out.ext x7)
    replace XT := Hi (XT.out.ext x7)
    replace BI := Hi (Ex.trans BI.out x7)
    clear x7 CS
    go_wp2_with (first | ((with_reducible refine so0 ?_ ?_); (focus rfl)) | (with_reducible refine stop_lk ?_))
    refine at9 (by go_simp) fun K0 hK => ld_v _ g3 x rfl rfl HXB.out (hK _ _ ?_)
    clear hK
    go_wp2_with (first | ((with_reducible refine so0 ?_ ?_); (focus rfl)) | (with_reducible refine stop_lk ?_))
    refine at9 (by go_simp) fun K0 hK => ld_v _ g2 z rfl rfl HZB.out (hK _ _ ?_)
    clear hK
    go_wp2_with (first | ((with_reducible refine so0 ?_ ?_); (focus rfl)) | (with_reducible refine stop_lk ?_))
    have CS := rsame_any x z w7 XT.out.vi ZT.out.vi
    rw [decide_eq_true (HXC.out.trans HZC.out.symm)] at CS
    refine CS.mono ?_
    rintro e w8 ⟨rfl, x8⟩
    replace KW := Hi (KW.out.ext x8)
    replace YT := Hi (YT.out.ext x8)
    replace HY := Hi (HY.out.ext x8)
    replace BI := Hi (Ex.trans BI.out x8)
    clear x8 CS HZB HXB ZT XT
    go_wp2_with (first | ((with_reducible refine so0 ?_ ?_); (focus rfl)) | (with_reducible refine stop_lk ?_))
    refine at9 (by go_simp) fun K0 hK => ld_vid _ g1 y rfl rfl HY.out (hK _ _ ?_)
    clear hK
    go_wp2_with (first | ((with_reducible refine so0 ?_ ?_); (focus rfl)) | (with_reducible refine stop_lk ?_))
    refine (Sm.rof_any y.id H4.out w8).mono ?_
    rintro e w9 ⟨rfl, x9⟩
    rw [HSH.out]
    replace KW := Hi (KW.out.ext x9)
    replace YT := Hi (YT.out.ext x9)
    replace BI := Hi (Ex.trans BI.out x9)
    clear x9 HY
    go_wp2_with fail
    go_roundw
    case rel => exact ⟨i + 1, by omega, by go_num, by go_num, BI⟩
    case measure => simp [intOf]; omega
  obtain ⟨hlt, hlt2⟩ := hbb rfl
  clear hbb
  have q0 : (0 : Int) ≤ (k : Int) := by omega
  obtain ⟨ab, ofs, rfl, hab, hcc⟩ := HIN.out.read (by rw [← HN.out]; omega)
  obtain ⟨x, hx⟩ : ∃ x, l[k]? = some x := ⟨_, List.getElem?_eq_getElem (by rw [← HN.out]; exact hlt)⟩
  have q1 : (k : Int) < (n : Int) := by omega
  have XI := Hi ((HIN.out.ins k x hx).ext KK.out.ex)
  have XRG : Hid (∀ wq, Ex w wq → wq.rangeAt ab (ofs + k * 8) x.C) := Hi (fun wq e j u hu => (Below.cell (p := ⟨ab, ofs + k * 8 + j, none⟩) e hab).trans (hcc k x hx j u hu))
  have HRL : Hid (∀ i, i < 16 → ∀ g, (r i).ownBlock = some g → g < wc.heap.size) := Hi (fun i hi g hg => ((KK.out.ss.ts.tb i hi).row.row.lt g hg).2)
  clear hcc hx hab
  go_wp2_with fail
  have hS0 : ∀ (listed : Array Bool) (f : Nat → Value), (∀ i, listed.getD i false = false) → SA3 12 13 11 wc 36 42 GV9 FV9 listed f wc.drew := fun _ _ h0 => SA3.start h0 (Below.refl wc.heap.size wc).drew
  obtain ⟨T, hT⟩ : ∃ T : List (Value → Prop), T = [(fun zz => zz = .slice (some ⟨ab, ofs, none⟩) n cap), (fun zz => zz = .int .i64 (k : Int)), (fun zz => zz = .pointer (some ⟨ab, ofs + k * 8, none⟩)), (fun zz => zz = x.V), (fun zz => zz = .slice (some ⟨ab, ofs, none⟩) n cap), (fun zz => zz = .int .i64 (k : Int)), (fun zz => zz = .pointer (some ⟨ab, ofs + k * 8, none⟩)), (fun zz => zz = .pointer (some ⟨ab, ofs + k * 8, none⟩)), (fun zz => zz = .int .i64 x.id), (fun zz => zz = .int .i64 (x.id.tmod 90)), (fun zz => ∃ d : List UInt8, zz = digV d ∧ d.length = 4), (fun _ => True), (fun _ => True), (fun _ => True)] := ⟨_, rfl⟩
  refine wp_region_gen (JS T ([(13, 12), (13, 11)] : List (Nat × Nat)) (fun lz fz wq => SA3 12 13 11 wc 36 42 GV9 FV9 lz fz wq)) (by kernel_rfl) (by kernel_rfl) (by kernel_rfl) (fitB_spec (by kernel_rfl)) (fun listed f h => JS.start listed f h (hS0 listed f h)) ?_ ?_
  · intro i o ho
    have hi : i < 14 := (Array.getElem?_eq_some_iff.1 ho).1
    have hi' : i = 0 ∨ i = 1 ∨ i = 2 ∨ i = 3 ∨ i = 4 ∨ i = 5 ∨ i = 6 ∨ i = 7 ∨ i = 8 ∨ i = 9 ∨ i = 10 ∨ i = 11 ∨ i = 12 ∨ i = 13 := by omega
    clear hi
    rcases hi' with rfl | rfl | rfl | rfl | rfl | rfl | rfl | rfl | rfl | rfl | rfl | rfl | rfl | rfl
    all_goals (simp only [List.getElem?_toArray, List.getElem?_cons_zero, List.getElem?_cons_succ, Option.some.injEq] at ho; subst ho; intro listed f a w3 hJ hsz hls hun hdep hout hlat; first | (rw [if_pos (by rfl)]; intro K hK) | skip)
    · have q0 := hout 0 (outB_spec (by kernel_rfl))
      have hord : ∀ x ∈ ([(13, 12), (13, 11)] : List (Nat × Nat)), x.1 = 0 → listed.getD x.2 false = true := (by intro x hx he; simp only [List.mem_cons, List.not_mem_nil, or_false] at hx; rcases hx with rfl | rfl; all_goals first | (exact absurd he (by decide)) | assumption)
      refine wp_mv _ rfl (hK _ _ ?_)
      rw [show a.eval (.tmp 0) = .slice (some ⟨ab, ofs, none⟩) n cap from q0]
      exact hJ.nx hls hT rfl rfl (SA3.plain hJ.st GV9.ext FV9.ext (Ex.refl _) 0 (by decide)) hord
    · have q6 := hout 6 (outB_spec (by kernel_rfl))
      have hord : ∀ x ∈ ([(13, 12), (13, 11)] : List (Nat × Nat)), x.1 = 1 → listed.getD x.2 false = true := (by intro x hx he; simp only [List.mem_cons, List.not_mem_nil, or_false] at hx; rcases hx with rfl | rfl; all_goals first | (exact absurd he (by decide)) | assumption)
      refine wp_mv _ rfl (hK _ _ ?_)
      rw [show a.eval (.tmp 6) = .int .i64 (k : Int) from q6]
      exact hJ.nx hls hT rfl rfl (SA3.plain hJ.st GV9.ext FV9.ext (Ex.refl _) 1 (by decide)) hord
    · have q34 := hJ.is hT (hdep ⟨0, .data⟩ (by simp) rfl) rfl _ rfl _ rfl
      have q35 := hJ.is hT (hdep ⟨1, .data⟩ (by simp) rfl) rfl _ rfl _ rfl
      have hord : ∀ x ∈ ([(13, 12), (13, 11)] : List (Nat × Nat)), x.1 = 2 → listed.getD x.2 false = true := (by intro x hx he; simp only [List.mem_cons, List.not_mem_nil, or_false] at hx; rcases hx with rfl | rfl; all_goals first | (exact absurd he (by decide)) | assumption)
      rw [Array.getD_eq_getD_getElem?] at q34
      rw [Array.getD_eq_getD_getElem?] at q35
      clear hsz hdep hout hlat
      go_simp
      exact hK _ _ (hJ.nx hls hT rfl (by first | rfl | exact congrArg (Value.int .i64) (by omega) | exact congrArg (Value.int .i64) (by rw [IntKind.wrap_i64]; omega) | exact congrArg Value.bool (decide_eq_false (by omega)) | exact congrArg Value.bool (decide_eq_true (by omega)) | exact congrArg (Value.int .u64) (by omega)) (SA3.plain hJ.st GV9.ext FV9.ext (Ex.refl _) 2 (by decide)) hord)
    · have q36 := hJ.is hT (hdep ⟨2, .data⟩ (by simp) rfl) rfl _ rfl _ rfl
      have hord : ∀ x ∈ ([(13, 12), (13, 11)] : List (Nat × Nat)), x.1 = 3 → listed.getD x.2 false = true := (by intro x hx he; simp only [List.mem_cons, List.not_mem_nil, or_false] at hx; rcases hx with rfl | rfl; all_goals first | (exact absurd he (by decide)) | assumption)
      exact ld_kv _ ab (ofs + k * 8) x rfl q36 (XRG.out _ (Ex.trans KK.out.ex hJ.st.ex)) (hK _ _ (hJ.nx hls hT rfl rfl (SA3.plain hJ.st GV9.ext FV9.ext (Ex.refl _) 3 (by decide)) hord))
    · have q0 := hout 0 (outB_spec (by kernel_rfl))
      have hord : ∀ x ∈ ([(13, 12), (13, 11)] : List (Nat × Nat)), x.1 = 4 → listed.getD x.2 false = true := (by intro x hx he; simp only [List.mem_cons, List.not_mem_nil, or_false] at hx; rcases hx with rfl | rfl; all_goals first | (exact absurd he (by decide)) | assumption)
      refine wp_mv _ rfl (hK _ _ ?_)
      rw [show a.eval (.tmp 0) = .slice (some ⟨ab, ofs, none⟩) n cap from q0]
      exact hJ.nx hls hT rfl rfl (SA3.plain hJ.st GV9.ext FV9.ext (Ex.refl _) 4 (by decide)) hord
    · have q6 := hout 6 (outB_spec (by kernel_rfl))
      have hord : ∀ x ∈ ([(13, 12), (13, 11)] : List (Nat × Nat)), x.1 = 5 → listed.getD x.2 false = true := (by intro x hx he; simp only [List.mem_cons, List.not_mem_nil, or_false] at hx; rcases hx with rfl | rfl; all_goals first | (exact absurd he (by decide)) | assumption)
      refine wp_mv _ rfl (hK _ _ ?_)
      rw [show a.eval (.tmp 6) = .int .i64 (k : Int) from q6]
      exact hJ.nx hls hT rfl rfl (SA3.plain hJ.st GV9.ext FV9.ext (Ex.refl _) 5 (by decide)) hord
    · have q38 := hJ.is hT (hdep ⟨4, .data⟩ (by simp) rfl) rfl _ rfl _ rfl
      have q39 := hJ.is hT (hdep ⟨5, .data⟩ (by simp) rfl) rfl _ rfl _ rfl
      have hord : ∀ x ∈ ([(13, 12), (13, 11)] : List (Nat × Nat)), x.1 = 6 → listed.getD x.2 false = true := (by intro x hx he; simp only [List.mem_cons, List.not_mem_nil, or_false] at hx; rcases hx with rfl | rfl; all_goals first | (exact absurd he (by decide)) | assumption)
      rw [Array.getD_eq_getD_getElem?] at q38
      rw [Array.getD_eq_getD_getElem?] at q39
      clear hsz hdep hout hlat
      go_simp
      exact hK _ _ (hJ.nx hls hT rfl (by first | rfl | exact congrArg (Value.int .i64) (by omega) | exact congrArg (Value.int .i64) (by rw [IntKind.wrap_i64]; omega) | exact congrArg Value.bool (decide_eq_false (by omega)) | exact congrArg Value.bool (decide_eq_true (by omega)) | exact congrArg (Value.int .u64) (by omega)) (SA3.plain hJ.st GV9.ext FV9.ext (Ex.refl _) 6 (by decide)) hord)
    · have q40 := hJ.is hT (hdep ⟨6, .data⟩ (by simp) rfl) rfl _ rfl _ rfl
      have hord : ∀ x ∈ ([(13, 12), (13, 11)] : List (Nat × Nat)), x.1 = 7 → listed.getD x.2 false = true := (by intro x hx he; simp only [List.mem_cons, List.not_mem_nil, or_false] at hx; rcases hx with rfl | rfl; all_goals first | (exact absurd he (by decide)) | assumption)
      rw [Array.getD_eq_getD_getElem?] at q40
      clear hsz hdep hout hlat
      go_simp
      exact hK _ _ (hJ.nx hls hT rfl (by first | rfl | exact congrArg (Value.int .i64) (by omega) | exact congrArg (Value.int .i64) (by rw [IntKind.wrap_i64]; omega) | exact congrArg Value.bool (decide_eq_false (by omega)) | exact congrArg Value.bool (decide_eq_true (by omega)) | exact congrArg (Value.int .u64) (by omega)) (SA3.plain hJ.st GV9.ext FV9.ext (Ex.refl _) 7 (by decide)) hord)
    · have q41 := hJ.is hT (hdep ⟨7, .data⟩ (by simp) rfl) rfl _ rfl _ rfl
      have hord : ∀ x ∈ ([(13, 12), (13, 11)] : List (Nat × Nat)), x.1 = 8 → listed.getD x.2 false = true := (by intro x hx he; simp only [List.mem_cons, List.not_mem_nil, or_false] at hx; rcases hx with rfl | rfl; all_goals first | (exact absurd he (by decide)) | assumption)
      have c0 : w3.cell? ⟨ab, ofs + k * 8, none⟩ = some (.int .i64 x.id) := XRG.out _ (Ex.trans KK.out.ex hJ.st.ex) 0 _ rfl
      rw [Array.getD_eq_getD_getElem?] at q41
      clear hsz hdep hout hlat
      go_simp
      exact hK _ _ (hJ.nx hls hT rfl rfl (SA3.plain hJ.st GV9.ext FV9.ext (Ex.refl _) 8 (by decide)) hord)
    · have q42 := hJ.is hT (hdep ⟨8, .data⟩ (by simp) rfl) rfl _ rfl _ rfl
      have hord : ∀ x ∈ ([(13, 12), (13, 11)] : List (Nat × Nat)), x.1 = 9 → listed.getD x.2 false = true := (by intro x hx he; simp only [List.mem_cons, List.not_mem_nil, or_false] at hx; rcases hx with rfl | rfl; all_goals first | (exact absurd he (by decide)) | assumption)
      rw [Array.getD_eq_getD_getElem?] at q42
      clear hsz hdep hout hlat
      go_simp
      exact hK _ _ (hJ.nx hls hT rfl (by first | rfl | exact congrArg (Value.int .i64) (by omega) | exact congrArg (Value.int .i64) (by rw [IntKind.wrap_i64]; omega) | exact congrArg Value.bool (decide_eq_false (by omega)) | exact congrArg Value.bool (decide_eq_true (by omega)) | exact congrArg (Value.int .u64) (by omega)) (SA3.plain hJ.st GV9.ext FV9.ext (Ex.refl _) 9 (by decide)) hord)
    · have q43 := hJ.is hT (hdep ⟨9, .data⟩ (by simp) rfl) rfl _ rfl _ rfl
      have hord : ∀ x ∈ ([(13, 12), (13, 11)] : List (Nat × Nat)), x.1 = 10 → listed.getD x.2 false = true := (by intro x hx he; simp only [List.mem_cons, List.not_mem_nil, or_false] at hx; rcases hx with rfl | rfl; all_goals first | (exact absurd he (by decide)) | assumption)
      rw [Array.getD_eq_getD_getElem?] at q43
      have hst := hJ.st
      clear hsz hdep hout hlat
      go_simp
      refine (id_any (x.id.tmod 90) (tmod90 _) w3).mono ?_
      rintro e wq ⟨d, rfl, hd, xq⟩
      exact hK _ _ (hJ.nx hls hT rfl (by exact ⟨d, rfl, hd⟩) (SA3.plain hst GV9.ext FV9.ext xq 10 (by decide)) hord)
    · have q37 := hJ.is hT (hdep ⟨3, .data⟩ (by simp) rfl) rfl _ rfl _ rfl
      have dd44 := hdep ⟨10, .data⟩ (by simp) rfl
      have q44 := dd44.2 _ rfl _ rfl
      have h44 := hJ.vals 10 dd44.1
      rw [hT] at h44
      have h44 : (fun zz => ∃ d : List UInt8, zz = digV d ∧ d.length = 4) (f 10) := h44
      obtain ⟨d44, e44, l44⟩ := h44
      rw [e44] at q44
      clear dd44
      have hord : ∀ x ∈ ([(13, 12), (13, 11)] : List (Nat × Nat)), x.1 = 11 → listed.getD x.2 false = true := (by intro x hx he; simp only [List.mem_cons, List.not_mem_nil, or_false] at hx; rcases hx with rfl | rfl; all_goals first | (exact absurd he (by decide)) | assumption)
      have h13 : listed.getD 13 false = false := by
        cases hc : listed.getD 13 false with
        | false => rfl
        | true => exact absurd (hJ.ord (13, 11) (by simp) hc) (by rw [hun]; decide)
      rw [Array.getD_eq_getD_getElem?] at q37
      rw [Array.getD_eq_getD_getElem?] at q44
      have hst := hJ.st
      clear hsz hdep hout hlat
      go_simp
      refine (kv_any x d44 l44 w3 (XI.out.ext hst.ex)).mono ?_
      rintro e wq ⟨y, rfl, hy1, _, hy2, xq⟩
      exact hK _ _ (hJ.nx hls hT rfl (by trivial) (SA3.sc hst (by decide) (by decide) h13 xq ⟨y, rfl, hy1, hy2⟩) hord)
    · have hord : ∀ x ∈ ([(13, 12), (13, 11)] : List (Nat × Nat)), x.1 = 12 → listed.getD x.2 false = true := (by intro x hx he; simp only [List.mem_cons, List.not_mem_nil, or_false] at hx; rcases hx with rfl | rfl; all_goals first | (exact absurd he (by decide)) | assumption)
      have h13 : listed.getD 13 false = false := by
        cases hc : listed.getD 13 false with
        | false => rfl
        | true => exact absurd (hJ.ord (13, 12) (by simp) hc) (by rw [hun]; decide)
      have hst := hJ.st
      clear hsz hdep hout hlat
      go_simp
      exact hK _ _ (hJ.nx hls hT rfl (by trivial) (SA3.sa hst GV9.ext (by decide) (by decide) h13 (Ex.alloc _ _) (z := zeroVt.C.toArray) rfl rfl (Bk.new rfl 36 _)) hord)
    have dd7 := hdep ⟨12, .data⟩ (by simp) rfl
    have q7 := dd7.2 _ rfl _ rfl
    have dd45 := hdep ⟨11, .data⟩ (by simp) rfl
    have q45 := dd45.2 _ rfl _ rfl
    have hl12 := (hdep ⟨12, .data⟩ (by simp) rfl).1
    have hl11 := (hdep ⟨11, .data⟩ (by simp) rfl).1
    have hord : ∀ x ∈ ([(13, 12), (13, 11)] : List (Nat × Nat)), x.1 = 13 → listed.getD x.2 false = true := (by intro x hx he; simp only [List.mem_cons, List.not_mem_nil, or_false] at hx; rcases hx with rfl | rfl; all_goals first | (exact absurd he (by decide)) | assumption)
    have hst := hJ.st
    have hl12 := (hdep ⟨12, .data⟩ (by simp) rfl).1
    have hl11 := (hdep ⟨11, .data⟩ (by simp) rfl).1
    obtain ⟨g, z, hg, hge, hz, hb⟩ := hst.ea hl12 hun
    obtain ⟨y, hy, hty, hry⟩ := hst.ec hl11 hun
    rw [hg] at q7
    rw [hy] at q45
    exact st_v _ _ g y rfl q7 q45 hty.ok hb hz (fun w9 hd ho => hK _ _ (hJ.nx hls hT rfl (by trivial) (SA3.sb hst (by decide) (by rw [hls]; decide) hg hge ho hd.2 ⟨y, rfl, ⟨hty.ok, hty.sec.onlyT ho hb (by decide), hty.len⟩, hry⟩) hord))
  intro listed f w3 hall hJ
  have hst := hJ.st
  simp only [putAll, Act.put, List.setIfInBounds_toArray, List.set_cons_zero, List.set_cons_succ, Nat.zero_add, Nat.reduceAdd]
  obtain ⟨g7, cs7, hg7, hge7, hb7, y, rfl, hty, hry⟩ := hst.eb (hall 13 (by simp))
  rw [hg7]
  have HG7 := Hi hge7
  clear hge7
  have HY : Hid (VB w3 g7 y) := Hi ⟨hty.ok, hb7⟩
  have YT := Hi hty
  have YR := Hi hry
  replace KK := Hi (KK.out.ext hst.ex)
  clear hst hS0 hg7 hb7 hty hry XI XRG
  clear hJ hall hT
  generalize f 0 = y0
  generalize f 1 = y1
  generalize f 2 = y2
  generalize f 3 = y3
  generalize f 4 = y4
  generalize f 5 = y5
  generalize f 6 = y6
  generalize f 7 = y7
  generalize f 8 = y8
  generalize f 9 = y9
  generalize f 10 = y10
  generalize f 11 = y11
  go_wp2_with (first | ((with_reducible refine so0 ?_ ?_); (focus rfl)) | ((with_reducible refine so4 [39, 27] ?_ ?_); (focus rfl)) | (with_reducible refine stop_lk ?_) | (with_reducible refine stop_mu ?_))
  refine at9 (by go_simp) fun K0 hK => ld_vid _ g7 y rfl rfl HY.out (hK _ _ ?_)
  clear hK
  go_wp2_with fail
  obtain ⟨s, hs, hs16⟩ := shv_range y.id
  have HSH := Hi hs
  refine (Sm.rof_any y.id YT.out.ok.idN w3).mono ?_
  rintro e w4 ⟨rfl, x4⟩
  rw [hs]
  clear hs
  have q3 : (0 : Int) ≤ (s : Int) := by omega
  have q4 : (s : Int) < 16 := by omega
  replace KK := Hi (KK.out.ext x4)
  replace HY := Hi (HY.out.ext x4)
  replace YT := Hi (YT.out.ext x4)
  clear x4
  go_wp2_with (first | ((with_reducible refine so0 ?_ ?_); (focus rfl)) | ((with_reducible refine so4 [39, 27] ?_ ?_); (focus rfl)) | (with_reducible refine stop_lk ?_) | (with_reducible refine stop_mu ?_))
  refine at9 (by go_simp) fun K0 hK => ld_vid _ g7 y rfl rfl HY.out (hK _ _ ?_)
  clear hK
  go_wp2_with (first | ((with_reducible refine so0 ?_ ?_); (focus rfl)) | ((with_reducible refine so4 [39, 27] ?_ ?_); (focus rfl)) | (with_reducible refine stop_lk ?_) | (with_reducible refine stop_mu ?_))
  refine at9 (by go_simp) fun K0 hK => wp_lk2 _ _ rfl mb ps KK.out.mp y.id YT.out.ok.idN rfl rfl (fun u f hf1 hf2 => hK _ _ ?_)
  clear hK
  have UO : Hid (u.Ok) := Hi (by
    cases f with
    | false => rw [(hf1 rfl).1]; exact zeroVt_ok
    | true => exact (KK.out.tv _ (hf2 rfl)).ok)
  have HF1 : Hid (f = false → ∀ p, p ∈ ps → p.1 ≠ y.id) := Hi (fun h => (hf1 h).2)
  have HF2 : Hid (f = true → ∃ p, p ∈ ps ∧ p.1 = y.id) := Hi (fun h => ⟨_, hf2 h, rfl⟩)
  clear hf1 hf2
  go_wp2_with (first | ((with_reducible refine so0 ?_ ?_); (focus rfl)) | ((with_reducible refine so4 [39, 27] ?_ ?_); (focus rfl)) | (with_reducible refine stop_lk ?_) | (with_reducible refine stop_mu ?_))
  refine at9 (by go_simp) fun K0 hK => st_v _ _ w4.heap.size u rfl rfl rfl UO.out (Bk.new rfl _ _) (by rfl) (fun w5 hd ho => hK _ _ ?_)
  clear hK
  have x5 : Ex w4 w5 := ho.below w4.heap.size (Nat.le_refl _) w4 (Ex.alloc w4 _)
  replace KK := Hi (KK.out.ext x5)
  replace HY := Hi (HY.out.ext x5)
  replace YT := Hi (YT.out.ext x5)
  clear hd ho x5 UO
  generalize w4.heap.size = g9
  go_wp2_with (first | ((with_reducible refine so0 ?_ ?_); (focus rfl)) | ((with_reducible refine so4 [39, 27] ?_ ?_); (focus rfl)) | (with_reducible refine stop_lk ?_) | (with_reducible refine stop_mu ?_))
  refine at9 (by go_simp) fun K0 hK => ld_v _ g7 y rfl rfl HY.out (hK _ _ ?_)
  clear hK
  go_wp2_with (first | ((with_reducible refine so0 ?_ ?_); (focus rfl)) | ((with_reducible refine so4 [39, 27] ?_ ?_); (focus rfl)) | (with_reducible refine stop_lk ?_) | (with_reducible refine stop_mu ?_))
  refine at9 (by go_simp) fun K0 hK => wp_build _ _ rfl _ (built_rkK y YT.out.ok) (hK _ _ ?_)
  clear hK
  go_wp2_with fail
  obtain ⟨c, b, hdet⟩ := get_det (v s) (idn y.id)
  have HNI := Hi (getdet_in hdet)
  have HTH := Hi (KK.out.rel.there hs16 (KK.out.ss.ts.tb s hs16) YT.out.ok.idN HSH.out)
  have HL4 : Hid ((v s).length ≤ 4) := Hi (KK.out.ss.ts.tb s hs16).len
  refine (apply_keep w.heap.size M 0 1 (newP 0 1) D r v (rkK y) rfl s HSH.out hs16 c b hdet w5 (rkK_in YT.out.vi) KK.out.ss).mono ?_
  rw [ckE01]
  clear hdet
  have HFB : Hid (f = b) := Hi (by
    cases f with
    | false => exact (HNI.out.2 (HTH.out.2 (HF1.out rfl))).symm
    | true =>
      obtain ⟨p, hp, hpe⟩ := HF2.out rfl
      cases b with
      | false => exact absurd hpe (HTH.out.1 (HNI.out.1 rfl) p hp)
      | true => rfl)
  obtain ⟨ln, hln⟩ : ∃ n, n = (v s).length := ⟨_, rfl⟩
  rw [← hln] at HL4 ⊢
  have HLN := Hi hln
  clear hln
  have hl4 := HL4.out
  rintro e w6 (⟨hn, ⟨E, rfl, hE0, hE1, _⟩, x6⟩ | ⟨_, hE0, rfl, r2, ls, hpr, hss, htc, hli⟩)
  · have hkr : (rkK y).keepR := rkK_keep YR.out
    have hE := hE1 hkr
    have hb4 : b = false ∧ 4 ≤ ln := Classical.byContradiction (fun h => by rw [if_neg h] at hE; exact hE0 hE)
    rw [if_pos hb4] at hE
    subst hE
    obtain ⟨rfl, h4⟩ := hb4
    obtain rfl : ln = 4 := by omega
    have hf := HFB.out
    subst hf
    have c5 : w6.cell? ⟨g5, s, none⟩ = some (.int .i64 4) := by rw [(KK.out.cnt.ext x6).cell, List.getElem?_toArray, cntC_at v hs16, ← HLN.out]; rfl
    replace KK := Hi (KK.out.ext x6)
    clear x6 hn hE0 hE1 hkr
    go_wp2_with fail
    (first | (refine ⟨?_, ?measure⟩; (repeat apply Exists.intro); refine ⟨?rel, rfl⟩) | refine ⟨?rel, ?measure⟩)
    case rel => exact ⟨k + 1, r, v, ps, by omega, by omega, by go_num, KK⟩
    case measure => simp [intOf]; omega
  have hnb : ¬ (b = false ∧ 4 ≤ ln) := fun h => by rw [if_pos h] at hE0; cases hE0
  have HTC := Hi (KK.out.tc hs16 htc)
  have htb := KK.out.ss.ts.tb s hs16
  have hno : some g7 ≠ (r s).ownBlock := fun e => by have h1 := HRL.out s hs16 g7 e.symm; have h2 := HG7.out; omega
  have HPL := Hi (putrel_len hpr (show (rkK y).v.ct.right = true from YR.out))
  have HRM : Hid (¬ (NotIn (v s) (idn y.id) ∧ (v s).length = 4)) := Hi (fun h => hnb ⟨HNI.out.2 h.1, by rw [HLN.out, h.2]; exact Nat.le_refl 4⟩)
  have HKP : Hid (∀ ps2, (∀ p, p ∈ ps2 ↔ p = (y.id, y) ∨ (p ∈ ps ∧ p.1 ≠ y.id)) → (((∃ p, p ∈ ps ∧ p.1 = y.id) ∧ ps2.length = ps.length) ∨ ((∀ p, p ∈ ps → p.1 ≠ y.id) ∧ ps2.length = ps.length + 1)) → KRel (updF v s ls) ps2) := Hi (fun ps2 h1 h2 => KK.out.rel.put hs16 htb YT.out.ok.idN HSH.out YR.out hpr HRM.out h1 h2)
  have HSS := Hi hss
  replace HY : Hid (VB w6 g7 y) := Hi ⟨HY.out.1, htc.bk HY.out.2 (fun e => htb.D_ne HY.out.2 e.symm) hno⟩
  replace YT := Hi (YT.out.tc9 htc htb)
  have HLM := Hi (And.intro KK.out.lm KK.out.lg)
  have HFB2 := HFB.out
  clear hss htc hli hpr htb hno KK HRL HG7 hE0 HFB
  cases f
  · have hNI : NotIn (v s) (idn y.id) := HNI.out.1 HFB2.symm
    clear HFB2 hnb
    have hl3 : ln < 4 := by have h := HRM.out; have h2 : ¬ (v s).length = 4 := fun e => h ⟨hNI, e⟩; rw [← HLN.out] at h2; omega
    have hl3i : (ln : Int) < 4 := by omega
    have HLS : Hid (ls.length = ln + 1) := Hi (by rw [HPL.out.2 hNI (fun e => HRM.out ⟨hNI, e⟩), ← HLN.out])
    have c5 : w6.cell? ⟨g5, s, none⟩ = some (.int .i64 (ln : Int)) := by rw [HTC.out.2.1.cell, List.getElem?_toArray, cntC_at v hs16, ← HLN.out]
    clear hNI
    go_wp2_with (first | ((with_reducible refine so0 ?_ ?_); (focus rfl)) | (with_reducible refine stop_lk ?_) | (with_reducible refine stop_mu ?_) | ((with_reducible refine so4 [1000 + 3] ?_ ?_); (focus rfl)))
    refine at9 (by go_simp) fun K0 hK => wp_st1 _ _ g5 s (.int .i64 ((ln : Int) + 1)) rfl rfl rfl HTC.out.2.1 (by rw [cntC_len]; exact hs16) (by kernel_rfl) rfl (fun w7 hd ho => hK _ _ ?_)
    clear hK
    have kt7 : Kt [66] w.heap.size w6 w7 := Kt.md ho.md HLM.out.2 HTC.out.2.1 (List.mem_singleton.2 rfl)
    have HC : Hid (Bk w7 g5 66 (cntC (updF v s ls)).toArray) := Hi (by rw [← cntC_set v hs16, HLS.out]; exact hd)
    replace HSS := Hi (HSS.out.kts kt7 (by decide) (by decide) (by decide) (by decide))
    replace HY : Hid (VB w7 g7 y) := Hi ⟨HY.out.1, kt7.bk HY.out.2 (by decide)⟩
    replace YT := Hi (YT.out.kt kt7 (by decide))
    have hmb7 : MB w7 mb ps := HTC.out.1.ext (ho.md.other mb (fun e => by obtain ⟨es, c, h1, _⟩ := HTC.out.1.ex; have h2 := HTC.out.2.1; unfold Bk at h2; rw [← e, h1] at h2; cases h2) HTC.out.1.lt)
    replace HTC : Hid (MB w7 mb ps ∧ Bk w7 g5 66 (cntC (updF v s ls)).toArray ∧ (∀ q, q ∈ ps → TVN w7 q.2) ∧ Ex w w7) := Hi ⟨hmb7, HC.out, fun q hq => (HTC.out.2.2.1 q hq).kt kt7 (by decide), Below.trans HTC.out.2.2.2 kt7.below⟩
    clear hd ho kt7 hmb7 c5
    go_wp2_with (first | ((with_reducible refine so0 ?_ ?_); (focus rfl)) | (with_reducible refine stop_lk ?_) | (with_reducible refine stop_mu ?_) | ((with_reducible refine so4 [1000 + 3] ?_ ?_); (focus rfl)))
    refine at9 (by go_simp) fun K0 hK => ld_vid _ g7 y rfl rfl HY.out (hK _ _ ?_)
    clear hK
    go_wp2_with (first | ((with_reducible refine so0 ?_ ?_); (focus rfl)) | (with_reducible refine stop_lk ?_) | (with_reducible refine stop_mu ?_) | ((with_reducible refine so4 [1000 + 3] ?_ ?_); (focus rfl)))
    refine at9 (by go_simp) fun K0 hK => ld_v _ g7 y rfl rfl HY.out (hK _ _ ?_)
    clear hK
    go_wp2_with (first | ((with_reducible refine so0 ?_ ?_); (focus rfl)) | (with_reducible refine stop_lk ?_) | (with_reducible refine stop_mu ?_) | ((with_reducible refine so4 [1000 + 3] ?_ ?_); (focus rfl)))
    refine at9 (by go_simp) fun K0 hK => wp_mu _ _ _ rfl mb ps HTC.out.1 y.id y YT.out.ok.idN rfl rfl rfl (fun w8 ps2 m1 m2 m3 m4 => hK _ _ ?_)
    clear hK
    have kt8 : Kt [] w.heap.size w7 w8 := HTC.out.1.kt m2 HLM.out.1
    have KN : Hid (KI w w8 M D (updF r s r2) (updF v s ls) ps2 mb g5) := Hi ⟨HSS.out.kts kt8 (by simp) (by simp) (by simp) (by simp), m1, kt8.bk HC.out (by simp), fun q hq => by
      rcases (m3 q).1 hq with rfl | ⟨hq, _⟩
      · exact YT.out.kt kt8 (by simp)
      · exact (HTC.out.2.2.1 q hq).kt kt8 (by simp), HKP.out ps2 m3 m4, Below.trans HTC.out.2.2.2 kt8.below, HLM.out.1, HLM.out.2⟩
    clear m1 m2 m3 m4 kt8 HKP HTC HSS HC
    go_wp2_with fail
    (first | (refine ⟨?_, ?measure⟩; (repeat apply Exists.intro); refine ⟨?rel, rfl⟩) | refine ⟨?rel, ?measure⟩)
    case rel => exact ⟨k + 1, _, _, ps2, by omega, by omega, by go_num, KN⟩
    case measure => simp [intOf]; omega
  have hNI : ¬ NotIn (v s) (idn y.id) := fun h => by have := HNI.out.2 h; rw [this] at HFB2; cases HFB2
  have HC : Hid (Bk w6 g5 66 (cntC (updF v s ls)).toArray) := Hi (by rw [cntC_eq v (HPL.out.1 hNI)]; exact HTC.out.2.1)
  clear hNI HFB2 hnb
  go_wp2_with (first | ((with_reducible refine so0 ?_ ?_); (focus rfl)) | (with_reducible refine stop_lk ?_) | (with_reducible refine stop_mu ?_) | ((with_reducible refine so4 [1000 + 3] ?_ ?_); (focus rfl)))
  refine at9 (by go_simp) fun K0 hK => ld_vid _ g7 y rfl rfl HY.out (hK _ _ ?_)
  clear hK
  go_wp2_with (first | ((with_reducible refine so0 ?_ ?_); (focus rfl)) | (with_reducible refine stop_lk ?_) | (with_reducible refine stop_mu ?_) | ((with_reducible refine so4 [1000 + 3] ?_ ?_); (focus rfl)))
  refine at9 (by go_simp) fun K0 hK => ld_v _ g7 y rfl rfl HY.out (hK _ _ ?_)
  clear hK
  go_wp2_with (first | ((with_reducible refine so0 ?_ ?_); (focus rfl)) | (with_reducible refine stop_lk ?_) | (with_reducible refine stop_mu ?_) | ((with_reducible refine so4 [1000 + 3] ?_ ?_); (focus rfl)))
  refine at9 (by go_simp) fun K0 hK => wp_mu _ _ _ rfl mb ps HTC.out.1 y.id y YT.out.ok.idN rfl rfl rfl (fun w8 ps2 m1 m2 m3 m4 => hK _ _ ?_)
  clear hK
  have kt8 : Kt [] w.heap.size w6 w8 := HTC.out.1.kt m2 HLM.out.1
  have KN : Hid (KI w w8 M D (updF r s r2) (updF v s ls) ps2 mb g5) := Hi ⟨HSS.out.kts kt8 (by simp) (by simp) (by simp) (by simp), m1, kt8.bk HC.out (by simp), fun q hq => by
    rcases (m3 q).1 hq with rfl | ⟨hq, _⟩
    · exact YT.out.kt kt8 (by simp)
    · exact (HTC.out.2.2.1 q hq).kt kt8 (by simp), HKP.out ps2 m3 m4, Below.trans HTC.out.2.2.2 kt8.below, HLM.out.1, HLM.out.2⟩
  clear m1 m2 m3 m4 kt8 HKP HTC HSS HC
  go_wp2_with fail
  (first | (refine ⟨?_, ?measure⟩; (repeat apply Exists.intro); refine ⟨?rel, rfl⟩) | refine ⟨?rel, ?measure⟩)
  case rel => exact ⟨k + 1, _, _, ps2, by omega, by omega, by go_num, KN⟩
  case measure => simp [intOf]; omega
end Go.Proofs.Ytmjfnpmnhehnkaa
