/- walks: the law RegisterOnward -/
import Derived.Test.YtlebanghcbkejaaRgG
namespace Go.Proofs.Ytlebanghcbkejaa
open Go.RowKit
theorem at_not {P : Program} {ops : Array Oper} {rest : List Oper} {d : Option Tmp} {x : Op} {t2 : TypeId} {pos : String} {af : Array Edge} {g : Option (Nat × Bool)} {a : Act} {w : World} {Q : Exit → Act → World → Prop}
    (hw : Region.wanted { dst := d, op := x, type := t2, pos := pos, after := af, guard := g } (yielded ops a.tmps) = false)
    (k : wpList P ops Q rest (a.put d undef) w) : wpList P ops Q ({ dst := d, op := x, type := t2, pos := pos, after := af, guard := g } :: rest) a w :=
  wpList_step fun K hK => by rw [if_neg (by rw [hw]; simp)]; exact hK _ _ k
set_option maxHeartbeats 4000000 in
set_option maxRecDepth 100000 in
theorem onward_any (ao : Option Addr) (N c : Nat) (hN : N ≤ maxLen) (w : World) (hrow : N = 0 ∨ ∃ b off, ao = some ⟨b, off, none⟩ ∧ b < w.heap.size ∧ ∀ i, i < N → ∃ k : Int, w.cell? ⟨b, off + i, none⟩ = some (.int .i64 k) ∧ -9223372036854775808 ≤ k ∧ k ≤ 9223372036854775807)
    (H : List UInt8) (hH : H.length = 16) :
    Calls Try.prog 5 #[.slice ao N c, digV H] w fun e w' => e = .returned (.bool true) ∧ Below w.heap.size w w' := by
  have HH := Lib.hid hH
  have HRW := Lib.hid hrow
  obtain ⟨ds, hds⟩ : ∃ cs, cs = (Lib.byteCells H).toArray := ⟨_, rfl⟩
  have hv' : digV H = .agg ds := by rw [hds]; rfl
  have H0 : Hid (∀ Z, DB ((w.alloc (.cells ds 25)).alloc (.cells Z 27)) w.heap.size H) := by
    rw [hds]; exact Lib.hid fun Z => ⟨HH.out, (Bk.new rfl _ _).more _⟩
  have bw : ∀ Z, Below w.heap.size w ((w.alloc (.cells ds 25)).alloc (.cells Z 27)) := fun Z => ((Below.refl _ _).alloc (Nat.le_refl _) _).alloc (by simp) _
  have BW := Lib.hid bw
  have hN2 : N ≤ 9223372036854775807 := by unfold maxLen at hN; omega
  rw [hv']
  clear hv' hds hH bw hrow hN
  go_enter Try.func5, Try.ntmps5
  go_wp2_with (first | (with_reducible refine stop_load25 ?_) | (with_reducible refine stop_store25 ?_) | (with_reducible refine stop_load27 ?_) | (with_reducible refine stop_store27 ?_))
  (with_reducible refine ⟨?_⟩); (with_reducible refine at_any ?_ ?_); (focus go_simp); refine fun K hK => wp_str _ _ (w.heap.size + 1) zeroRg rfl rfl rfl rfl (Bk.new (by simp) _ _) rfl (fun w2 hd ho => hK _ _ ?_)
  obtain ⟨B, hB⟩ : ∃ B, B = w.heap.size := ⟨_, rfl⟩
  have D2 : Hid (DB w2 B H) := by rw [hB]; exact Lib.hid (ho.db (H0.out _) (by omega))
  have bw2 : Below B w w2 := by rw [hB]; exact ho.below _ (by omega) w (BW.out _)
  rw [← hB] at hd HRW ⊢
  have R2 : Hid (RB w2 (B + 1) zeroRg) := Lib.hid hd
  replace hB := Lib.hid hB
  clear hK ho hd H0 BW
  go_wp2_with (first | (with_reducible refine stop_load25 ?_) | (with_reducible refine stop_store25 ?_) | (with_reducible refine stop_load27 ?_) | (with_reducible refine stop_store27 ?_))
  go_loopw [6] (fun i wr => ∃ (j : Nat) (r : Rg), j ≤ N ∧ j ≤ 60 ∧ i = .int .i64 (j : Int) ∧ Hid (Inv r j) ∧ Hid (DB wr B H) ∧ Hid (RB wr (B + 1) r) ∧ Below B w wr) (fun i _ => 60 - (intOf i).toNat)
  case atStart => exact ⟨0, zeroRg, by omega, by omega, rfl, Lib.hid Inv.zero, D2, R2, bw2⟩
  case round =>
    clear D2 R2 bw2
    obtain ⟨j, r, hjN, hj, rfl, hI, hD, hR, bwr⟩ := hrel
    have bwr0 : B ≤ wr.heap.size := by have := hR.out.lt; omega
    have q2 : (0 : Int) ≤ (j : Int) := by omega
    by_cases hlt : j < N ∧ j < 60
    · obtain ⟨h1, h2⟩ := hlt
      have q0 : (j : Int) < (N : Int) := by omega
      have q1 : (j : Int) < 60 := by omega
      obtain ⟨b, off, rfl, hb, hcell⟩ := HRW.out.resolve_left (by omega)
      obtain ⟨z, hz, z0, z1⟩ := hcell j h1
      have fz : wr.cell? ⟨b, off + j, none⟩ = some (.int .i64 z) := (bwr.cell (p := ⟨b, off + j, none⟩) hb).trans hz
      have y0 : -4 < z.tmod 4 := Int.lt_tmod_of_pos z (by omega)
      have y1 : z.tmod 4 < 4 := Int.tmod_lt_of_pos z (by omega)
      have y2 : 0 ≤ (z.tmod 4 + 4).tmod 4 := by rw [Int.tmod_eq_emod_of_nonneg (by omega)]; omega
      have y3 : (z.tmod 4 + 4).tmod 4 < 4 := Int.tmod_lt_of_pos _ (by omega)
      clear hcell hz
      go_wp2_with (first | (with_reducible refine stop_load25 ?_) | (with_reducible refine stop_store25 ?_) | (with_reducible refine stop_load27 ?_) | (with_reducible refine stop_store27 ?_))
      generalize hkk : (z.tmod 4 + 4) % 4 = kk
      have k0 : 0 ≤ kk := by omega
      have k1 : kk < 4 := by omega
      clear hkk y0 y1 y2 y3 fz z0 z1
      obtain ⟨X, q, HX, hq1, hq0, CN⟩ := hI.out.cnext (by omega) HH.out
      have HX := Lib.hid HX
      have CN := Lib.hid CN
      have HQ1 := Lib.hid hq1
      have HQ0 := Lib.hid hq0
      have IB := hI.out
      have CB := Lib.hid (fun w => hI.out.cboot (by omega) w)
      have CH := Lib.hid (fun w => hI.out.cheld (by omega) w)
      have HL := Lib.hid hI.out.l
      obtain ⟨X2, q2', HX2, hp1, hp0, CF⟩ := hI.out.cfold (by omega) HH.out
      have HX2 := Lib.hid HX2
      have CF := Lib.hid CF
      have HP1 := Lib.hid hp1
      have HP0 := Lib.hid hp0
      clear hq1 hq0 hp1 hp0 IB
      (with_reducible refine ⟨?_⟩); (with_reducible refine at_any ?_ ?_); (focus go_simp); refine fun K hK => wp_ldr _ _ r rfl rfl hR.out (hK _ _ ?_)
      clear hK
      go_wp2_with (first | (with_reducible refine stop_load25 ?_) | (with_reducible refine stop_store25 ?_) | (with_reducible refine stop_load27 ?_) | (with_reducible refine stop_store27 ?_))
      (with_reducible refine ⟨?_⟩); (with_reducible refine at_any ?_ ?_); (focus go_simp); refine fun K hK => wp_ldh _ _ H rfl rfl hD.out (hK _ _ ?_)
      clear hK
      go_wp2_with (first | (with_reducible refine stop_load25 ?_) | (with_reducible refine stop_store25 ?_) | (with_reducible refine stop_load27 ?_) | (with_reducible refine stop_store27 ?_))
      refine (CN.out _).mono ?_
      rintro e w1 ⟨rfl, x1⟩
      go_wp2_with (first | (with_reducible refine stop_load25 ?_) | (with_reducible refine stop_store25 ?_) | (with_reducible refine stop_load27 ?_) | (with_reducible refine stop_store27 ?_))
      (with_reducible refine ⟨?_⟩); (with_reducible refine at_any ?_ ?_); (focus go_simp); refine fun K hK => wp_str _ _ w1.heap.size X rfl rfl rfl HX.out (Bk.new rfl _ _) rfl (fun w2 hd ho => hK _ _ ?_)
      have x2 := Ex.trans x1 ho.ex
      have gB : B + 1 < w1.heap.size := by have := hR.out.lt; have := x1.size; omega
      have D2 := Lib.hid (hD.out.ext x2)
      have R2 := Lib.hid (hR.out.ext x2)
      have bw2 : Below B w w2 := bwr.trans (x2.mono bwr0)
      have bz2 : B ≤ w2.heap.size := by have := x2.size; omega
      generalize w1.heap.size = g at hd gB ⊢
      have S2 := Lib.hid hd
      clear hK ho hd x1 x2 hD hR bwr bwr0 CN
      have hkc : kk = 1 ∨ kk = 2 ∨ (¬ kk = 1 ∧ ¬ kk = 2) := by omega
      rcases hkc with rfl | rfl | ⟨n1, n2⟩
      · skip
        go_wp2_with (first | (with_reducible refine stop_load25 ?_) | (with_reducible refine stop_store25 ?_) | (with_reducible refine stop_load27 ?_) | (with_reducible refine stop_store27 ?_))
        (with_reducible refine ⟨?_⟩); (with_reducible refine at_any ?_ ?_); (focus go_simp); refine fun K hK => wp_ldr _ _ r rfl rfl R2.out (hK _ _ ?_)
        clear hK
        go_wp2_with (first | (with_reducible refine stop_load25 ?_) | (with_reducible refine stop_store25 ?_) | (with_reducible refine stop_load27 ?_) | (with_reducible refine stop_store27 ?_))
        refine (CB.out _).mono ?_
        rintro e w3 ⟨rfl, x3⟩
        have D3 := Lib.hid (D2.out.ext x3)
        have R3 := Lib.hid (R2.out.ext x3)
        have S3 := Lib.hid (S2.out.ext x3)
        have bw3 : Below B w w3 := bw2.trans (x3.mono bz2)
        have bz3 : B ≤ w3.heap.size := by have := x3.size; omega
        clear x3 D2 R2 S2 bw2 bz2
        go_wp2_with (first | (with_reducible refine stop_load25 ?_) | (with_reducible refine stop_store25 ?_) | (with_reducible refine stop_load27 ?_) | (with_reducible refine stop_store27 ?_))
        (with_reducible refine ⟨?_⟩); (with_reducible refine at_any ?_ ?_); (focus go_simp); refine fun K hK => wp_str _ _ g r.boot rfl rfl rfl HL.out S3.out.2 (by simp [Rg.len _ S3.out.1]) (fun w4 hd ho => hK _ _ ?_)
        have D4 := Lib.hid (ho.db D3.out (by omega))
        have R4 := Lib.hid (ho.rb R3.out (by omega))
        have S4 := Lib.hid hd
        have bw4 := ho.below B (by omega) w bw3
        have bz4 : B ≤ w4.heap.size := by rw [ho.size]; exact bz3
        clear hK ho hd D3 R3 S3 bw3 bz3
        have IY : Hid (Inv r.boot (((j + 1 : Nat) : Int))) := Lib.hid hI.out.boot
        have hb1 : r.b ≤ r.boot.b := by show r.b ≤ r.b + 1; omega
        have hb2 : r.c ≤ r.boot.c := by show r.c ≤ r.c; omega
        have CG := Lib.hid (fun w => Inv.cbehind hI.out IY.out hb1 hb2 w)
        have CR := Lib.hid (fun w => IY.out.cright (by omega) w)
        have CE := Lib.hid (fun w => IY.out.cheld (by omega) w)
        have ye := IY.out.d
        obtain ⟨y, hy⟩ : ∃ y, y = r.boot.c - r.boot.a := ⟨_, rfl⟩
        rw [← hy] at CE ye
        have LY := Lib.hid IY.out.l
        obtain ⟨Y, hY⟩ : ∃ Y, Y = r.boot := ⟨_, rfl⟩
        rw [← hY] at CG CR CE S4 IY LY ⊢
        clear hY hy hb1 hb2
        go_wp2_with (first | (with_reducible refine stop_load25 ?_) | (with_reducible refine stop_store25 ?_) | (with_reducible refine stop_load27 ?_) | (with_reducible refine stop_store27 ?_))
        (with_reducible refine ⟨?_⟩); (with_reducible refine at_any ?_ ?_); (focus go_simp); refine fun K hK => wp_ldr _ _ Y rfl rfl S4.out (hK _ _ ?_)
        clear hK
        go_wp2_with (first | (with_reducible refine stop_load25 ?_) | (with_reducible refine stop_store25 ?_) | (with_reducible refine stop_load27 ?_) | (with_reducible refine stop_store27 ?_))
        (with_reducible refine ⟨?_⟩); (with_reducible refine at_any ?_ ?_); (focus go_simp); refine fun K hK => wp_ldr _ _ r rfl rfl R4.out (hK _ _ ?_)
        clear hK
        go_wp2_with (first | (with_reducible refine stop_load25 ?_) | (with_reducible refine stop_store25 ?_) | (with_reducible refine stop_load27 ?_) | (with_reducible refine stop_store27 ?_))
        refine (CG.out _).mono ?_
        rintro e w11 ⟨rfl, x11⟩
        have D11 := Lib.hid (D4.out.ext x11)
        have R11 := Lib.hid (R4.out.ext x11)
        have S11 := Lib.hid (S4.out.ext x11)
        have bw11 : Below B w w11 := bw4.trans (x11.mono bz4)
        have bz11 : B ≤ w11.heap.size := by have := x11.size; omega
        clear x11 D4 R4 S4 bw4 bz4
        go_wp2_with (first | (with_reducible refine stop_load25 ?_) | (with_reducible refine stop_store25 ?_) | (with_reducible refine stop_load27 ?_) | (with_reducible refine stop_store27 ?_))
        (with_reducible refine ⟨?_⟩); (with_reducible refine at_any ?_ ?_); (focus go_simp); refine fun K hK => wp_ldr _ _ Y rfl rfl S11.out (hK _ _ ?_)
        clear hK
        go_wp2_with (first | (with_reducible refine stop_load25 ?_) | (with_reducible refine stop_store25 ?_) | (with_reducible refine stop_load27 ?_) | (with_reducible refine stop_store27 ?_))
        refine (CR.out _).mono ?_
        rintro e w12 ⟨rfl, x12⟩
        have D12 := Lib.hid (D11.out.ext x12)
        have R12 := Lib.hid (R11.out.ext x12)
        have S12 := Lib.hid (S11.out.ext x12)
        have bw12 : Below B w w12 := bw11.trans (x12.mono bz11)
        have bz12 : B ≤ w12.heap.size := by have := x12.size; omega
        clear x12 D11 R11 S11 bw11 bz11
        go_wp2_with (first | (with_reducible refine stop_load25 ?_) | (with_reducible refine stop_store25 ?_) | (with_reducible refine stop_load27 ?_) | (with_reducible refine stop_store27 ?_))
        (with_reducible refine ⟨?_⟩); (with_reducible refine at_any ?_ ?_); (focus go_simp); refine fun K hK => wp_ldr _ _ Y rfl rfl S12.out (hK _ _ ?_)
        clear hK
        go_wp2_with (first | (with_reducible refine stop_load25 ?_) | (with_reducible refine stop_store25 ?_) | (with_reducible refine stop_load27 ?_) | (with_reducible refine stop_store27 ?_))
        refine (CE.out _).mono ?_
        rintro e w13 ⟨rfl, x13⟩
        have D13 := Lib.hid (D12.out.ext x13)
        have R13 := Lib.hid (R12.out.ext x13)
        have S13 := Lib.hid (S12.out.ext x13)
        have bw13 : Below B w w13 := bw12.trans (x13.mono bz12)
        have bz13 : B ≤ w13.heap.size := by have := x13.size; omega
        clear x13 D12 R12 S12 bw12 bz12
        go_wp2_with (first | (with_reducible refine stop_load25 ?_) | (with_reducible refine stop_store25 ?_) | (with_reducible refine stop_load27 ?_) | (with_reducible refine stop_store27 ?_))
        (with_reducible refine ⟨?_⟩); (with_reducible refine at_any ?_ ?_); (focus go_simp); refine fun K hK => wp_ldr _ _ Y rfl rfl S13.out (hK _ _ ?_)
        clear hK
        go_wp2_with (first | (with_reducible refine stop_load25 ?_) | (with_reducible refine stop_store25 ?_) | (with_reducible refine stop_load27 ?_) | (with_reducible refine stop_store27 ?_))
        (with_reducible refine ⟨?_⟩); (with_reducible refine at_any ?_ ?_); (focus go_simp); refine fun K hK => wp_str _ _ (B + 1) Y rfl rfl rfl LY.out R13.out.2 (by simp [Rg.len _ R13.out.1]) (fun w14 hd ho => hK _ _ ?_)
        have D14 := Lib.hid (ho.db D13.out (by omega))
        have R14 := Lib.hid hd
        have bw14 := ho.below B (by omega) w bw13
        clear hK ho hd D13 R13 S13 bw13 bz13 CG CR CE
        go_wp2_with (first | (with_reducible refine stop_load25 ?_) | (with_reducible refine stop_store25 ?_) | (with_reducible refine stop_load27 ?_) | (with_reducible refine stop_store27 ?_))
        go_roundw
        case rel => exact ⟨j + 1, Y, by omega, by omega, by go_num, IY, D14, R14, bw14⟩
        case measure => simp [intOf]; omega
      · skip
        go_wp2_with (first | (with_reducible refine stop_load25 ?_) | (with_reducible refine stop_store25 ?_) | (with_reducible refine stop_load27 ?_) | (with_reducible refine stop_store27 ?_))
        (with_reducible refine ⟨?_⟩); (with_reducible refine at_any ?_ ?_); (focus go_simp); refine fun K hK => wp_ldr _ _ r rfl rfl R2.out (hK _ _ ?_)
        clear hK
        go_wp2_with (first | (with_reducible refine stop_load25 ?_) | (with_reducible refine stop_store25 ?_) | (with_reducible refine stop_load27 ?_) | (with_reducible refine stop_store27 ?_))
        (with_reducible refine ⟨?_⟩); (with_reducible refine at_any ?_ ?_); (focus go_simp); refine fun K hK => wp_ldh _ _ H rfl rfl D2.out (hK _ _ ?_)
        clear hK
        go_wp2_with (first | (with_reducible refine stop_load25 ?_) | (with_reducible refine stop_store25 ?_) | (with_reducible refine stop_load27 ?_) | (with_reducible refine stop_store27 ?_))
        refine (CF.out _).mono ?_
        rintro e w3 ⟨rfl, x3⟩
        have D3 := Lib.hid (D2.out.ext x3)
        have R3 := Lib.hid (R2.out.ext x3)
        have S3 := Lib.hid (S2.out.ext x3)
        have bw3 : Below B w w3 := bw2.trans (x3.mono bz2)
        have bz3 : B ≤ w3.heap.size := by have := x3.size; omega
        clear x3 D2 R2 S2 bw2 bz2
        go_wp2_with (first | (with_reducible refine stop_load25 ?_) | (with_reducible refine stop_store25 ?_) | (with_reducible refine stop_load27 ?_) | (with_reducible refine stop_store27 ?_))
        (with_reducible refine ⟨?_⟩); (with_reducible refine at_any ?_ ?_); (focus go_simp); refine fun K hK => wp_str _ _ g X2 rfl rfl rfl HX2.out S3.out.2 (by simp [Rg.len _ S3.out.1]) (fun w4 hd ho => hK _ _ ?_)
        have D4 := Lib.hid (ho.db D3.out (by omega))
        have R4 := Lib.hid (ho.rb R3.out (by omega))
        have S4 := Lib.hid hd
        have bw4 := ho.below B (by omega) w bw3
        have bz4 : B ≤ w4.heap.size := by rw [ho.size]; exact bz3
        clear hK ho hd D3 R3 S3 bw3 bz3
        cases q2'
        · skip
          have h0 := HP0.out rfl
          rw [h0] at CH
          go_wp2_with (first | (with_reducible refine stop_load25 ?_) | (with_reducible refine stop_store25 ?_) | (with_reducible refine stop_load27 ?_) | (with_reducible refine stop_store27 ?_))
          (with_reducible refine ⟨?_⟩); (with_reducible refine at_any ?_ ?_); (focus go_simp); refine fun K hK => wp_ldr _ _ r rfl rfl R4.out (hK _ _ ?_)
          clear hK
          go_wp2_with (first | (with_reducible refine stop_load25 ?_) | (with_reducible refine stop_store25 ?_) | (with_reducible refine stop_load27 ?_) | (with_reducible refine stop_store27 ?_))
          refine (CH.out _).mono ?_
          rintro e w5 ⟨rfl, x5⟩
          have D5 := Lib.hid (D4.out.ext x5)
          have R5 := Lib.hid (R4.out.ext x5)
          have S5 := Lib.hid (S4.out.ext x5)
          have bw5 : Below B w w5 := bw4.trans (x5.mono bz4)
          have bz5 : B ≤ w5.heap.size := by have := x5.size; omega
          clear x5 D4 R4 S4 bw4 bz4
          go_wp2_with (first | (with_reducible refine stop_load25 ?_) | (with_reducible refine stop_store25 ?_) | (with_reducible refine stop_load27 ?_) | (with_reducible refine stop_store27 ?_))
          (with_reducible refine ⟨?_⟩)
          (with_reducible refine at_not ?_ ?_)
          (focus go_simp)
          go_wp2_with (first | (with_reducible refine stop_load25 ?_) | (with_reducible refine stop_store25 ?_) | (with_reducible refine stop_load27 ?_) | (with_reducible refine stop_store27 ?_))
          go_roundw
          case rel => exact ⟨j + 1, r, by omega, by omega, by go_num, Lib.hid (hI.out.more (by omega)), D5, R5, bw5⟩
          case measure => simp [intOf]; omega
        · skip
          obtain ⟨hX, hac⟩ := HP1.out rfl
          rw [hX] at S4 ⊢
          have IY : Hid (Inv (r.fold H) (((j + 1 : Nat) : Int))) := Lib.hid (hI.out.fold HH.out hac)
          have hb1 : r.b ≤ (r.fold H).b := by show r.b ≤ r.b; omega
          have hb2 : r.c ≤ (r.fold H).c := by show r.c ≤ r.c; omega
          clear hX hac
          have CG := Lib.hid (fun w => Inv.cbehind hI.out IY.out hb1 hb2 w)
          have CR := Lib.hid (fun w => IY.out.cright (by omega) w)
          have CE := Lib.hid (fun w => IY.out.cheld (by omega) w)
          have ye := IY.out.d
          obtain ⟨y, hy⟩ : ∃ y, y = (r.fold H).c - (r.fold H).a := ⟨_, rfl⟩
          rw [← hy] at CE ye
          have LY := Lib.hid IY.out.l
          obtain ⟨Y, hY⟩ : ∃ Y, Y = (r.fold H) := ⟨_, rfl⟩
          rw [← hY] at CG CR CE S4 IY LY ⊢
          clear hY hy hb1 hb2
          go_wp2_with (first | (with_reducible refine stop_load25 ?_) | (with_reducible refine stop_store25 ?_) | (with_reducible refine stop_load27 ?_) | (with_reducible refine stop_store27 ?_))
          (with_reducible refine ⟨?_⟩); (with_reducible refine at_any ?_ ?_); (focus go_simp); refine fun K hK => wp_ldr _ _ Y rfl rfl S4.out (hK _ _ ?_)
          clear hK
          go_wp2_with (first | (with_reducible refine stop_load25 ?_) | (with_reducible refine stop_store25 ?_) | (with_reducible refine stop_load27 ?_) | (with_reducible refine stop_store27 ?_))
          (with_reducible refine ⟨?_⟩); (with_reducible refine at_any ?_ ?_); (focus go_simp); refine fun K hK => wp_ldr _ _ r rfl rfl R4.out (hK _ _ ?_)
          clear hK
          go_wp2_with (first | (with_reducible refine stop_load25 ?_) | (with_reducible refine stop_store25 ?_) | (with_reducible refine stop_load27 ?_) | (with_reducible refine stop_store27 ?_))
          refine (CG.out _).mono ?_
          rintro e w11 ⟨rfl, x11⟩
          have D11 := Lib.hid (D4.out.ext x11)
          have R11 := Lib.hid (R4.out.ext x11)
          have S11 := Lib.hid (S4.out.ext x11)
          have bw11 : Below B w w11 := bw4.trans (x11.mono bz4)
          have bz11 : B ≤ w11.heap.size := by have := x11.size; omega
          clear x11 D4 R4 S4 bw4 bz4
          go_wp2_with (first | (with_reducible refine stop_load25 ?_) | (with_reducible refine stop_store25 ?_) | (with_reducible refine stop_load27 ?_) | (with_reducible refine stop_store27 ?_))
          (with_reducible refine ⟨?_⟩); (with_reducible refine at_any ?_ ?_); (focus go_simp); refine fun K hK => wp_ldr _ _ Y rfl rfl S11.out (hK _ _ ?_)
          clear hK
          go_wp2_with (first | (with_reducible refine stop_load25 ?_) | (with_reducible refine stop_store25 ?_) | (with_reducible refine stop_load27 ?_) | (with_reducible refine stop_store27 ?_))
          refine (CR.out _).mono ?_
          rintro e w12 ⟨rfl, x12⟩
          have D12 := Lib.hid (D11.out.ext x12)
          have R12 := Lib.hid (R11.out.ext x12)
          have S12 := Lib.hid (S11.out.ext x12)
          have bw12 : Below B w w12 := bw11.trans (x12.mono bz11)
          have bz12 : B ≤ w12.heap.size := by have := x12.size; omega
          clear x12 D11 R11 S11 bw11 bz11
          go_wp2_with (first | (with_reducible refine stop_load25 ?_) | (with_reducible refine stop_store25 ?_) | (with_reducible refine stop_load27 ?_) | (with_reducible refine stop_store27 ?_))
          (with_reducible refine ⟨?_⟩); (with_reducible refine at_any ?_ ?_); (focus go_simp); refine fun K hK => wp_ldr _ _ Y rfl rfl S12.out (hK _ _ ?_)
          clear hK
          go_wp2_with (first | (with_reducible refine stop_load25 ?_) | (with_reducible refine stop_store25 ?_) | (with_reducible refine stop_load27 ?_) | (with_reducible refine stop_store27 ?_))
          refine (CE.out _).mono ?_
          rintro e w13 ⟨rfl, x13⟩
          have D13 := Lib.hid (D12.out.ext x13)
          have R13 := Lib.hid (R12.out.ext x13)
          have S13 := Lib.hid (S12.out.ext x13)
          have bw13 : Below B w w13 := bw12.trans (x13.mono bz12)
          have bz13 : B ≤ w13.heap.size := by have := x13.size; omega
          clear x13 D12 R12 S12 bw12 bz12
          go_wp2_with (first | (with_reducible refine stop_load25 ?_) | (with_reducible refine stop_store25 ?_) | (with_reducible refine stop_load27 ?_) | (with_reducible refine stop_store27 ?_))
          (with_reducible refine ⟨?_⟩); (with_reducible refine at_any ?_ ?_); (focus go_simp); refine fun K hK => wp_ldr _ _ Y rfl rfl S13.out (hK _ _ ?_)
          clear hK
          go_wp2_with (first | (with_reducible refine stop_load25 ?_) | (with_reducible refine stop_store25 ?_) | (with_reducible refine stop_load27 ?_) | (with_reducible refine stop_store27 ?_))
          (with_reducible refine ⟨?_⟩); (with_reducible refine at_any ?_ ?_); (focus go_simp); refine fun K hK => wp_str _ _ (B + 1) Y rfl rfl rfl LY.out R13.out.2 (by simp [Rg.len _ R13.out.1]) (fun w14 hd ho => hK _ _ ?_)
          have D14 := Lib.hid (ho.db D13.out (by omega))
          have R14 := Lib.hid hd
          have bw14 := ho.below B (by omega) w bw13
          clear hK ho hd D13 R13 S13 bw13 bz13 CG CR CE
          go_wp2_with (first | (with_reducible refine stop_load25 ?_) | (with_reducible refine stop_store25 ?_) | (with_reducible refine stop_load27 ?_) | (with_reducible refine stop_store27 ?_))
          go_roundw
          case rel => exact ⟨j + 1, Y, by omega, by omega, by go_num, IY, D14, R14, bw14⟩
          case measure => simp [intOf]; omega
      · skip
        cases q
        · skip
          have h0 := HQ0.out rfl
          rw [h0] at CH
          go_wp2_with (first | (with_reducible refine stop_load25 ?_) | (with_reducible refine stop_store25 ?_) | (with_reducible refine stop_load27 ?_) | (with_reducible refine stop_store27 ?_))
          (with_reducible refine ⟨?_⟩)
          (with_reducible refine at_not ?_ ?_)
          (focus go_simp)
          go_wp2_with (first | (with_reducible refine stop_load25 ?_) | (with_reducible refine stop_store25 ?_) | (with_reducible refine stop_load27 ?_) | (with_reducible refine stop_store27 ?_))
          (with_reducible refine ⟨?_⟩); (with_reducible refine at_any ?_ ?_); (focus go_simp); refine fun K hK => wp_ldr _ _ r rfl rfl R2.out (hK _ _ ?_)
          clear hK
          go_wp2_with (first | (with_reducible refine stop_load25 ?_) | (with_reducible refine stop_store25 ?_) | (with_reducible refine stop_load27 ?_) | (with_reducible refine stop_store27 ?_))
          refine (CH.out _).mono ?_
          rintro e w5 ⟨rfl, x5⟩
          have D5 := Lib.hid (D2.out.ext x5)
          have R5 := Lib.hid (R2.out.ext x5)
          have S5 := Lib.hid (S2.out.ext x5)
          have bw5 : Below B w w5 := bw2.trans (x5.mono bz2)
          have bz5 : B ≤ w5.heap.size := by have := x5.size; omega
          clear x5 D2 R2 S2 bw2 bz2
          go_wp2_with (first | (with_reducible refine stop_load25 ?_) | (with_reducible refine stop_store25 ?_) | (with_reducible refine stop_load27 ?_) | (with_reducible refine stop_store27 ?_))
          go_roundw
          case rel => exact ⟨j + 1, r, by omega, by omega, by go_num, Lib.hid (hI.out.more (by omega)), D5, R5, bw5⟩
          case measure => simp [intOf]; omega
        · skip
          obtain ⟨hX, hac⟩ := HQ1.out rfl
          rw [hX] at S2 ⊢
          have IY : Hid (Inv (r.next H) (((j + 1 : Nat) : Int))) := Lib.hid (hI.out.next HH.out hac)
          have hb1 : r.b ≤ (r.next H).b := by show r.b ≤ r.b; omega
          have hb2 : r.c ≤ (r.next H).c := by show r.c ≤ r.c + 1; omega
          clear hX hac
          have CG := Lib.hid (fun w => Inv.cbehind hI.out IY.out hb1 hb2 w)
          have CR := Lib.hid (fun w => IY.out.cright (by omega) w)
          have CE := Lib.hid (fun w => IY.out.cheld (by omega) w)
          have ye := IY.out.d
          obtain ⟨y, hy⟩ : ∃ y, y = (r.next H).c - (r.next H).a := ⟨_, rfl⟩
          rw [← hy] at CE ye
          have LY := Lib.hid IY.out.l
          obtain ⟨Y, hY⟩ : ∃ Y, Y = (r.next H) := ⟨_, rfl⟩
          rw [← hY] at CG CR CE S2 IY LY ⊢
          clear hY hy hb1 hb2
          go_wp2_with (first | (with_reducible refine stop_load25 ?_) | (with_reducible refine stop_store25 ?_) | (with_reducible refine stop_load27 ?_) | (with_reducible refine stop_store27 ?_))
          (with_reducible refine ⟨?_⟩); (with_reducible refine at_any ?_ ?_); (focus go_simp); refine fun K hK => wp_ldr _ _ Y rfl rfl S2.out (hK _ _ ?_)
          clear hK
          go_wp2_with (first | (with_reducible refine stop_load25 ?_) | (with_reducible refine stop_store25 ?_) | (with_reducible refine stop_load27 ?_) | (with_reducible refine stop_store27 ?_))
          (with_reducible refine ⟨?_⟩); (with_reducible refine at_any ?_ ?_); (focus go_simp); refine fun K hK => wp_ldr _ _ r rfl rfl R2.out (hK _ _ ?_)
          clear hK
          go_wp2_with (first | (with_reducible refine stop_load25 ?_) | (with_reducible refine stop_store25 ?_) | (with_reducible refine stop_load27 ?_) | (with_reducible refine stop_store27 ?_))
          refine (CG.out _).mono ?_
          rintro e w11 ⟨rfl, x11⟩
          have D11 := Lib.hid (D2.out.ext x11)
          have R11 := Lib.hid (R2.out.ext x11)
          have S11 := Lib.hid (S2.out.ext x11)
          have bw11 : Below B w w11 := bw2.trans (x11.mono bz2)
          have bz11 : B ≤ w11.heap.size := by have := x11.size; omega
          clear x11 D2 R2 S2 bw2 bz2
          go_wp2_with (first | (with_reducible refine stop_load25 ?_) | (with_reducible refine stop_store25 ?_) | (with_reducible refine stop_load27 ?_) | (with_reducible refine stop_store27 ?_))
          (with_reducible refine ⟨?_⟩); (with_reducible refine at_any ?_ ?_); (focus go_simp); refine fun K hK => wp_ldr _ _ Y rfl rfl S11.out (hK _ _ ?_)
          clear hK
          go_wp2_with (first | (with_reducible refine stop_load25 ?_) | (with_reducible refine stop_store25 ?_) | (with_reducible refine stop_load27 ?_) | (with_reducible refine stop_store27 ?_))
          refine (CR.out _).mono ?_
          rintro e w12 ⟨rfl, x12⟩
          have D12 := Lib.hid (D11.out.ext x12)
          have R12 := Lib.hid (R11.out.ext x12)
          have S12 := Lib.hid (S11.out.ext x12)
          have bw12 : Below B w w12 := bw11.trans (x12.mono bz11)
          have bz12 : B ≤ w12.heap.size := by have := x12.size; omega
          clear x12 D11 R11 S11 bw11 bz11
          go_wp2_with (first | (with_reducible refine stop_load25 ?_) | (with_reducible refine stop_store25 ?_) | (with_reducible refine stop_load27 ?_) | (with_reducible refine stop_store27 ?_))
          (with_reducible refine ⟨?_⟩); (with_reducible refine at_any ?_ ?_); (focus go_simp); refine fun K hK => wp_ldr _ _ Y rfl rfl S12.out (hK _ _ ?_)
          clear hK
          go_wp2_with (first | (with_reducible refine stop_load25 ?_) | (with_reducible refine stop_store25 ?_) | (with_reducible refine stop_load27 ?_) | (with_reducible refine stop_store27 ?_))
          refine (CE.out _).mono ?_
          rintro e w13 ⟨rfl, x13⟩
          have D13 := Lib.hid (D12.out.ext x13)
          have R13 := Lib.hid (R12.out.ext x13)
          have S13 := Lib.hid (S12.out.ext x13)
          have bw13 : Below B w w13 := bw12.trans (x13.mono bz12)
          have bz13 : B ≤ w13.heap.size := by have := x13.size; omega
          clear x13 D12 R12 S12 bw12 bz12
          go_wp2_with (first | (with_reducible refine stop_load25 ?_) | (with_reducible refine stop_store25 ?_) | (with_reducible refine stop_load27 ?_) | (with_reducible refine stop_store27 ?_))
          (with_reducible refine ⟨?_⟩); (with_reducible refine at_any ?_ ?_); (focus go_simp); refine fun K hK => wp_ldr _ _ Y rfl rfl S13.out (hK _ _ ?_)
          clear hK
          go_wp2_with (first | (with_reducible refine stop_load25 ?_) | (with_reducible refine stop_store25 ?_) | (with_reducible refine stop_load27 ?_) | (with_reducible refine stop_store27 ?_))
          (with_reducible refine ⟨?_⟩); (with_reducible refine at_any ?_ ?_); (focus go_simp); refine fun K hK => wp_str _ _ (B + 1) Y rfl rfl rfl LY.out R13.out.2 (by simp [Rg.len _ R13.out.1]) (fun w14 hd ho => hK _ _ ?_)
          have D14 := Lib.hid (ho.db D13.out (by omega))
          have R14 := Lib.hid hd
          have bw14 := ho.below B (by omega) w bw13
          clear hK ho hd D13 R13 S13 bw13 bz13 CG CR CE
          go_wp2_with (first | (with_reducible refine stop_load25 ?_) | (with_reducible refine stop_store25 ?_) | (with_reducible refine stop_load27 ?_) | (with_reducible refine stop_store27 ?_))
          go_roundw
          case rel => exact ⟨j + 1, Y, by omega, by omega, by go_num, IY, D14, R14, bw14⟩
          case measure => simp [intOf]; omega
    · skip
      have KN := Lib.hid known_any
      have bz := bwr.size
      by_cases h1 : j < N
      · have q0 : (j : Int) < (N : Int) := by omega
        have q1 : ¬ ((j : Int) < 60) := by omega
        clear hlt
        go_wp2_with (first | (with_reducible refine stop_load25 ?_) | (with_reducible refine stop_store25 ?_) | (with_reducible refine stop_load27 ?_) | (with_reducible refine stop_store27 ?_))
        refine (KN.out _).mono ?_
        rintro e w4 ⟨rfl, x4⟩
        have bw4 : Below B w w4 := bwr.trans (x4.mono bwr0)
        rw [hB.out] at bw4
        go_wp2_with (first | (with_reducible refine stop_load25 ?_) | (with_reducible refine stop_store25 ?_) | (with_reducible refine stop_load27 ?_) | (with_reducible refine stop_store27 ?_))
        go_ret
        exact ⟨rfl, bw4⟩
      · have q0 : ¬ ((j : Int) < (N : Int)) := by omega
        clear hlt
        go_wp2_with (first | (with_reducible refine stop_load25 ?_) | (with_reducible refine stop_store25 ?_) | (with_reducible refine stop_load27 ?_) | (with_reducible refine stop_store27 ?_))
        refine (KN.out _).mono ?_
        rintro e w4 ⟨rfl, x4⟩
        have bw4 : Below B w w4 := bwr.trans (x4.mono bwr0)
        rw [hB.out] at bw4
        go_wp2_with (first | (with_reducible refine stop_load25 ?_) | (with_reducible refine stop_store25 ?_) | (with_reducible refine stop_load27 ?_) | (with_reducible refine stop_store27 ?_))
        go_ret
        exact ⟨rfl, bw4⟩
end Go.Proofs.Ytlebanghcbkejaa
