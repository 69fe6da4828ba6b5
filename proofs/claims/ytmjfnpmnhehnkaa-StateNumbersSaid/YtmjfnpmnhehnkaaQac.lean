/- Vb, Vc -/
import Derived.Test.YtmjfnpmnhehnkaaQab
set_option maxRecDepth 100000
set_option maxHeartbeats 16000000
namespace Go.Proofs.Ytmjfnpmnhehnkaa
open Go.RowKit
theorem wp_build {o : Oper} {a : Act} {w : World} {K : Act → World → Prop} {Q : Exit → Act → World → Prop} (t : TypeId) (fs : Array (Nat × Operand)) (ho : o.op = .build t fs) (cells : Array Value)
  (h : Try.prog.built t (fs.toList.map fun x => (x.1, a.eval x.2)) = some cells) (hk : K (a.put o.dst (.agg cells)) w) : o.wp Try.prog a w K Q := by
 have hr := run_build (P := Try.prog) w t (fs.map fun x => (x.1, a.eval x.2)) cells (by simpa using h)
 unfold Oper.wp execOp
 simp only [ho]
 simp only [Sem.run_bind]
 rw [hr]
 exact hk
theorem wp_st1 {o : Oper} {a : Act} {w : World} {K : Act → World → Prop} {Q : Exit → Act → World → Prop} {t ty : TypeId} {C : List Value} (x y : Operand) (g off : Nat) (v : Value) (ho : o.op = .store ty x y) (ha : a.eval x = .pointer (some ⟨g, off, none⟩)) (hy : a.eval y = v) (h : Bk w g t C.toArray) (hl : off < C.length)
  (hs : (Try.prog.info? ty).map (·.size) = some 1) (h1 : v.oneCell' = true) (hk : ∀ w', Bk w' g t (C.set off v).toArray → Only g w w' → K (a.put o.dst undef) w') : o.wp Try.prog a w K Q := by
 have hc : v.cells = #[v] := by cases v <;> first | rfl | cases h1
 have ht := h.there off 1 (by simp; omega)
 have := run_storeCells_cells (P := Try.prog) g off [v] 0 w (fun j hj => by simpa using (ht j (by simpa using hj)).1) (fun j hj => by simpa using (ht j (by simpa using hj)).2) (fun u hu => by simp at hu; subst hu; exact h1)
 have hb : Bk (w.setCells g off [v]) g t (C.set off v).toArray := by have := h.put off v; simpa [World.setCells] using this
 have hr : (storeVar ty ⟨g, off, none⟩ v).run Try.prog w = .ok () (w.setCells g off [v]) := by
  cases hq : Try.prog.info? ty with
  | none => simp [hq] at hs
  | some i =>
   have hi : i.size = 1 := by simpa [hq] using hs
   simp only [Nat.add_zero] at this
   simp [storeVar, sizeOf, typeInfo, hq, hc, hi, this]
 unfold Oper.wp execOp
 simp only [ho, ha, hy, Instr.storeAt, Instr.sureAddr, Sem.run_bind, Sem.run_pure, Result.andThen_ok, hr]
 exact hk _ hb (Only.setCells g [v] off w)
theorem res_row1 {fn : Func} {a : Tmp} {t : TypeId} (h : fn.results = #[.cell a t]) (tmps : Array Value) (w : World) (g : Nat) (ha : tmps.getD a undef = .pointer (some ⟨g, 0, none⟩)) {C : List Value} {dd : TypeDesc} (hB : Bk w g t C.toArray) (hu : Try.prog.underlying t = some dd) (hr : dd.isRow = true) (hs : (Try.prog.info? t).map (·.size) = some C.length) :
  (results fn tmps).run Try.prog w = .ok (.agg C.toArray) w := by
 have ha' : tmps[a]?.getD undef = .pointer (some ⟨g, 0, none⟩) := by simpa using ha
 simp [results, h, ha', asAddr, run_loadVar_mid w g 0 t C dd hB.range hu hr hs, Sem.run_bind]
theorem res_row2 {fn : Func} {a b : Tmp} {t : TypeId} (h : fn.results = #[.cell a t, .tmp b]) (tmps : Array Value) (w : World) (g : Nat) (ha : tmps.getD a undef = .pointer (some ⟨g, 0, none⟩)) {C : List Value} {dd : TypeDesc} (hB : Bk w g t C.toArray) (hu : Try.prog.underlying t = some dd) (hr : dd.isRow = true) (hs : (Try.prog.info? t).map (·.size) = some C.length) :
  (results fn tmps).run Try.prog w = .ok (.tuple #[.agg C.toArray, tmps.getD b undef]) w := by
 have ha' : tmps[a]?.getD undef = .pointer (some ⟨g, 0, none⟩) := by simpa using ha
 simp [results, h, ha', asAddr, run_loadVar_mid w g 0 t C dd hB.range hu hr hs, Sem.run_bind]
theorem Try.sizeDig : (Try.prog.info? 34).map (·.size) = some 16 := by kernel_rfl
theorem Try.sizeId : (Try.prog.info? 32).map (·.size) = some 4 := by kernel_rfl
structure Vt where
 id : List UInt8
 gen : Int
 pin : List UInt8
 sec : Pt
 lim : Int
 used : Int
 own : List UInt8
 gone : Bool
 wiped : Bool
def Vt.C (x : Vt) : List Value := Lib.byteCells x.id ++ [.int .u64 x.gen] ++ Lib.byteCells x.pin ++ [x.sec.V, .int .i64 x.lim, .int .i64 x.used] ++ Lib.byteCells x.own ++ [.bool x.gone, .bool x.wiped]
def Vt.V (x : Vt) : Value := .agg x.C.toArray
structure Vt.Ok (x : Vt) : Prop where
 idN : x.id.length = 4
 gen0 : 0 ≤ x.gen
 gen1 : x.gen < 18446744073709551616
 pinN : x.pin.length = 16
 lim0 : -9223372036854775808 ≤ x.lim
 lim1 : x.lim ≤ 9223372036854775807
 used0 : -9223372036854775808 ≤ x.used
 used1 : x.used ≤ 9223372036854775807
 ownN : x.own.length = 16
theorem Vt.len {x : Vt} (ok : x.Ok) : x.C.length = 42 := by
 obtain ⟨id, gen, pin, sec, lim, used, own, gone, wiped⟩ := x
 obtain ⟨id0, id1, id2, id3, rfl⟩ := len4 ok.idN
 obtain ⟨_, _, _, _, _, _, _, _, _, _, _, _, _, _, _, _, rfl⟩ := len16 ok.pinN
 obtain ⟨_, _, _, _, _, _, _, _, _, _, _, _, _, _, _, _, rfl⟩ := len16 ok.ownN
 rfl
theorem Vt.ones (x : Vt) : x.C.toArray.all (·.oneCell') = true := all_oneCell_toArray (by
 intro v hv
 unfold Vt.C at hv
 simp only [List.mem_append, List.mem_cons, List.not_mem_nil, or_false] at hv
 rcases hv with ((((hv | rfl) | hv) | (rfl | rfl | rfl)) | hv) | (rfl | rfl)
 all_goals (first | rfl | exact byteCells_one hv | (cases x; rfl)))
theorem Vt.id_at {x : Vt} (ok : x.Ok) : (x.C.drop 0).take (Lib.byteCells x.id).length = Lib.byteCells x.id := by
 obtain ⟨id, gen, pin, sec, lim, used, own, gone, wiped⟩ := x
 obtain ⟨id0, id1, id2, id3, rfl⟩ := len4 ok.idN
 obtain ⟨_, _, _, _, _, _, _, _, _, _, _, _, _, _, _, _, rfl⟩ := len16 ok.pinN
 obtain ⟨_, _, _, _, _, _, _, _, _, _, _, _, _, _, _, _, rfl⟩ := len16 ok.ownN
 rfl
theorem Vt.gen_at {x : Vt} (ok : x.Ok) : x.C[4]? = some (.int .u64 x.gen) := by
 obtain ⟨id, gen, pin, sec, lim, used, own, gone, wiped⟩ := x
 obtain ⟨id0, id1, id2, id3, rfl⟩ := len4 ok.idN
 obtain ⟨_, _, _, _, _, _, _, _, _, _, _, _, _, _, _, _, rfl⟩ := len16 ok.pinN
 obtain ⟨_, _, _, _, _, _, _, _, _, _, _, _, _, _, _, _, rfl⟩ := len16 ok.ownN
 rfl
theorem Vt.pin_at {x : Vt} (ok : x.Ok) : (x.C.drop 5).take (Lib.byteCells x.pin).length = Lib.byteCells x.pin := by
 obtain ⟨id, gen, pin, sec, lim, used, own, gone, wiped⟩ := x
 obtain ⟨id0, id1, id2, id3, rfl⟩ := len4 ok.idN
 obtain ⟨_, _, _, _, _, _, _, _, _, _, _, _, _, _, _, _, rfl⟩ := len16 ok.pinN
 obtain ⟨_, _, _, _, _, _, _, _, _, _, _, _, _, _, _, _, rfl⟩ := len16 ok.ownN
 rfl
theorem Vt.sec_at {x : Vt} (ok : x.Ok) : x.C[21]? = some (x.sec.V) := by
 obtain ⟨id, gen, pin, sec, lim, used, own, gone, wiped⟩ := x
 obtain ⟨id0, id1, id2, id3, rfl⟩ := len4 ok.idN
 obtain ⟨_, _, _, _, _, _, _, _, _, _, _, _, _, _, _, _, rfl⟩ := len16 ok.pinN
 obtain ⟨_, _, _, _, _, _, _, _, _, _, _, _, _, _, _, _, rfl⟩ := len16 ok.ownN
 rfl
theorem Vt.lim_at {x : Vt} (ok : x.Ok) : x.C[22]? = some (.int .i64 x.lim) := by
 obtain ⟨id, gen, pin, sec, lim, used, own, gone, wiped⟩ := x
 obtain ⟨id0, id1, id2, id3, rfl⟩ := len4 ok.idN
 obtain ⟨_, _, _, _, _, _, _, _, _, _, _, _, _, _, _, _, rfl⟩ := len16 ok.pinN
 obtain ⟨_, _, _, _, _, _, _, _, _, _, _, _, _, _, _, _, rfl⟩ := len16 ok.ownN
 rfl
theorem Vt.used_at {x : Vt} (ok : x.Ok) : x.C[23]? = some (.int .i64 x.used) := by
 obtain ⟨id, gen, pin, sec, lim, used, own, gone, wiped⟩ := x
 obtain ⟨id0, id1, id2, id3, rfl⟩ := len4 ok.idN
 obtain ⟨_, _, _, _, _, _, _, _, _, _, _, _, _, _, _, _, rfl⟩ := len16 ok.pinN
 obtain ⟨_, _, _, _, _, _, _, _, _, _, _, _, _, _, _, _, rfl⟩ := len16 ok.ownN
 rfl
theorem Vt.own_at {x : Vt} (ok : x.Ok) : (x.C.drop 24).take (Lib.byteCells x.own).length = Lib.byteCells x.own := by
 obtain ⟨id, gen, pin, sec, lim, used, own, gone, wiped⟩ := x
 obtain ⟨id0, id1, id2, id3, rfl⟩ := len4 ok.idN
 obtain ⟨_, _, _, _, _, _, _, _, _, _, _, _, _, _, _, _, rfl⟩ := len16 ok.pinN
 obtain ⟨_, _, _, _, _, _, _, _, _, _, _, _, _, _, _, _, rfl⟩ := len16 ok.ownN
 rfl
theorem Vt.gone_at {x : Vt} (ok : x.Ok) : x.C[40]? = some (.bool x.gone) := by
 obtain ⟨id, gen, pin, sec, lim, used, own, gone, wiped⟩ := x
 obtain ⟨id0, id1, id2, id3, rfl⟩ := len4 ok.idN
 obtain ⟨_, _, _, _, _, _, _, _, _, _, _, _, _, _, _, _, rfl⟩ := len16 ok.pinN
 obtain ⟨_, _, _, _, _, _, _, _, _, _, _, _, _, _, _, _, rfl⟩ := len16 ok.ownN
 rfl
theorem Vt.wiped_at {x : Vt} (ok : x.Ok) : x.C[41]? = some (.bool x.wiped) := by
 obtain ⟨id, gen, pin, sec, lim, used, own, gone, wiped⟩ := x
 obtain ⟨id0, id1, id2, id3, rfl⟩ := len4 ok.idN
 obtain ⟨_, _, _, _, _, _, _, _, _, _, _, _, _, _, _, _, rfl⟩ := len16 ok.pinN
 obtain ⟨_, _, _, _, _, _, _, _, _, _, _, _, _, _, _, _, rfl⟩ := len16 ok.ownN
 rfl
def VB (w : World) (g : Nat) (x : Vt) : Prop := x.Ok ∧ Bk w g 36 x.C.toArray
theorem VB.ext {w w' : World} {g : Nat} {x : Vt} (h : VB w g x) (k : Ex w w') : VB w' g x := ⟨h.1, h.2.ext k⟩
theorem VB.lt {w : World} {g : Nat} {x : Vt} (h : VB w g x) : g < w.heap.size := h.2.lt
theorem Only.vb {g h : Nat} {w w' : World} {x : Vt} (k : Only g w w') (hb : VB w h x) (hne : h ≠ g) : VB w' h x := ⟨hb.1, k.bk hb.2 hne⟩
theorem Md.vb {g h : Nat} {w w' : World} {x : Vt} (k : Md g w w') (hb : VB w h x) (hne : h ≠ g) : VB w' h x := ⟨hb.1, k.bk hb.2 hne⟩
theorem VB.cells {w : World} {g : Nat} {x : Vt} (h : VB w g x) : w.cell? ⟨g, 4, none⟩ = some (.int .u64 x.gen) ∧ w.cell? ⟨g, 21, none⟩ = some (x.sec.V) ∧ w.cell? ⟨g, 22, none⟩ = some (.int .i64 x.lim) ∧ w.cell? ⟨g, 23, none⟩ = some (.int .i64 x.used) ∧ w.cell? ⟨g, 40, none⟩ = some (.bool x.gone) ∧ w.cell? ⟨g, 41, none⟩ = some (.bool x.wiped) :=
 ⟨(h.2.cell 4).trans (by rw [List.getElem?_toArray]; exact Vt.gen_at h.1), (h.2.cell 21).trans (by rw [List.getElem?_toArray]; exact Vt.sec_at h.1), (h.2.cell 22).trans (by rw [List.getElem?_toArray]; exact Vt.lim_at h.1), (h.2.cell 23).trans (by rw [List.getElem?_toArray]; exact Vt.used_at h.1), (h.2.cell 40).trans (by rw [List.getElem?_toArray]; exact Vt.gone_at h.1), (h.2.cell 41).trans (by rw [List.getElem?_toArray]; exact Vt.wiped_at h.1)⟩
theorem Try.sizeVt : (Try.prog.info? 36).map (·.size) = some 42 := by kernel_rfl
section
variable {o : Oper} {a : Act} {w : World} {K : Act → World → Prop} {Q : Exit → Act → World → Prop}
theorem ld_v (x : Operand) (g : Nat) (v : Vt) (ho : o.op = .load 36 x) (ha : a.eval x = .pointer (some ⟨g, 0, none⟩)) (h : VB w g v) (hk : K (a.put o.dst v.V) w) : o.wp Try.prog a w K Q := by
 obtain ⟨dd, hd⟩ : ∃ d, Try.prog.underlying 36 = some d ∧ d.isRow = true := ⟨_, Try.underlying36, rfl⟩
 exact wp_ldp (C := v.C) v.C x g 0 dd ho ha h.2 (by simp) hd.1 hd.2 (by rw [Try.sizeVt, Vt.len h.1]) hk
theorem st_v (x y : Operand) (g : Nat) (v : Vt) (ho : o.op = .store 36 x y) (ha : a.eval x = .pointer (some ⟨g, 0, none⟩)) (hy : a.eval y = v.V) (hv : v.Ok)
  {Y : Array Value} (hB : Bk w g 36 Y) (hY : Y.size = 42) (hk : ∀ w', VB w' g v → Only g w w' → K (a.put o.dst undef) w') : o.wp Try.prog a w K Q := by
 have hB' : Bk w g 36 Y.toList.toArray := by simpa using hB
 refine wp_stp v.C x y g 0 ho ha hy hB' (by rw [Vt.len hv]; simp [hY]) (by rw [Try.sizeVt, Vt.len hv]) v.ones (fun w' h1 h2 => hk w' ⟨hv, ?_⟩ h2)
 have e : Y.toList.take 0 ++ v.C ++ Y.toList.drop (0 + v.C.length) = v.C := by
  rw [List.take_zero, List.nil_append, List.drop_eq_nil_of_le (by rw [Vt.len hv]; simp [hY]), List.append_nil]
 rw [e] at h1; exact h1
theorem ld_vid (x : Operand) (g : Nat) (v : Vt) (ho : o.op = .load 32 x) (ha : a.eval x = .pointer (some ⟨g, 0, none⟩)) (h : VB w g v) (hk : K (a.put o.dst (digV v.id)) w) : o.wp Try.prog a w K Q := by
 obtain ⟨dd, hd⟩ : ∃ d, Try.prog.underlying 32 = some d ∧ d.isRow = true := ⟨_, Try.underlying32, rfl⟩
 exact wp_ldp (C := v.C) (Lib.byteCells v.id) x g 0 dd ho ha h.2 (Vt.id_at h.1) hd.1 hd.2 (by rw [Try.sizeId, byteCells_len, h.1.idN]) hk
theorem ld_vpin (x : Operand) (g : Nat) (v : Vt) (ho : o.op = .load 34 x) (ha : a.eval x = .pointer (some ⟨g, 5, none⟩)) (h : VB w g v) (hk : K (a.put o.dst (digV v.pin)) w) : o.wp Try.prog a w K Q := by
 obtain ⟨dd, hd⟩ : ∃ d, Try.prog.underlying 34 = some d ∧ d.isRow = true := ⟨_, Try.underlying34, rfl⟩
 exact wp_ldp (C := v.C) (Lib.byteCells v.pin) x g 5 dd ho ha h.2 (Vt.pin_at h.1) hd.1 hd.2 (by rw [Try.sizeDig, byteCells_len, h.1.pinN]) hk
theorem st_vsec {ty : TypeId} (hs : (Try.prog.info? ty).map (·.size) = some 1) (x y : Operand) (g : Nat) (v : Vt) (z : Pt) (ho : o.op = .store ty x y) (ha : a.eval x = .pointer (some ⟨g, 21, none⟩)) (hy : a.eval y = z.V) (h : VB w g v)
  (hk : ∀ w', VB w' g { v with sec := z } → Only g w w' → K (a.put o.dst undef) w') : o.wp Try.prog a w K Q := by
 refine wp_st1 x y g 21 (z.V) ho ha hy h.2 (by rw [Vt.len h.1]; decide) hs rfl (fun w' h1 h2 => hk w' ⟨⟨h.1.idN, h.1.gen0, h.1.gen1, h.1.pinN, h.1.lim0, h.1.lim1, h.1.used0, h.1.used1, h.1.ownN⟩, ?_⟩ h2)
 obtain ⟨ok, _⟩ := h
 have e : v.C.set 21 (z.V) = ({ v with sec := z } : Vt).C := by
   obtain ⟨id, gen, pin, sec, lim, used, own, gone, wiped⟩ := v
   obtain ⟨id0, id1, id2, id3, rfl⟩ := len4 ok.idN
   obtain ⟨_, _, _, _, _, _, _, _, _, _, _, _, _, _, _, _, rfl⟩ := len16 ok.pinN
   obtain ⟨_, _, _, _, _, _, _, _, _, _, _, _, _, _, _, _, rfl⟩ := len16 ok.ownN
   rfl
 rw [e] at h1; exact h1
theorem ld_vown (x : Operand) (g : Nat) (v : Vt) (ho : o.op = .load 34 x) (ha : a.eval x = .pointer (some ⟨g, 24, none⟩)) (h : VB w g v) (hk : K (a.put o.dst (digV v.own)) w) : o.wp Try.prog a w K Q := by
 obtain ⟨dd, hd⟩ : ∃ d, Try.prog.underlying 34 = some d ∧ d.isRow = true := ⟨_, Try.underlying34, rfl⟩
 exact wp_ldp (C := v.C) (Lib.byteCells v.own) x g 24 dd ho ha h.2 (Vt.own_at h.1) hd.1 hd.2 (by rw [Try.sizeDig, byteCells_len, h.1.ownN]) hk
end
theorem res_v {fn : Func} {a : Tmp} (h : fn.results = #[.cell a 36]) (tmps : Array Value) (w : World) (g : Nat) (ha : tmps.getD a undef = .pointer (some ⟨g, 0, none⟩)) (x : Vt) (hB : VB w g x) : (results fn tmps).run Try.prog w = .ok x.V w := by
 obtain ⟨dd, hd⟩ : ∃ d, Try.prog.underlying 36 = some d ∧ d.isRow = true := ⟨_, Try.underlying36, rfl⟩
 exact res_row1 h tmps w g ha hB.2 hd.1 hd.2 (by rw [Try.sizeVt, Vt.len hB.1])
theorem res_v2 {fn : Func} {a b : Tmp} (h : fn.results = #[.cell a 36, .tmp b]) (tmps : Array Value) (w : World) (g : Nat) (ha : tmps.getD a undef = .pointer (some ⟨g, 0, none⟩)) (x : Vt) (hB : VB w g x) : (results fn tmps).run Try.prog w = .ok (.tuple #[x.V, tmps.getD b undef]) w := by
 obtain ⟨dd, hd⟩ : ∃ d, Try.prog.underlying 36 = some d ∧ d.isRow = true := ⟨_, Try.underlying36, rfl⟩
 exact res_row2 h tmps w g ha hB.2 hd.1 hd.2 (by rw [Try.sizeVt, Vt.len hB.1])
structure Qt where
 op : Int
 id : List UInt8
 pin : List UInt8
 sec : Pt
 lim : Int
 own : List UInt8
 key : List UInt8
 client : Int
 num : Int
def Qt.C (x : Qt) : List Value := [.int .i64 x.op] ++ Lib.byteCells x.id ++ Lib.byteCells x.pin ++ [x.sec.V, .int .i64 x.lim] ++ Lib.byteCells x.own ++ Lib.byteCells x.key ++ [.int .i64 x.client, .int .u64 x.num]
def Qt.V (x : Qt) : Value := .agg x.C.toArray
structure Qt.Ok (x : Qt) : Prop where
 op0 : -9223372036854775808 ≤ x.op
 op1 : x.op ≤ 9223372036854775807
 idN : x.id.length = 4
 pinN : x.pin.length = 16
 lim0 : -9223372036854775808 ≤ x.lim
 lim1 : x.lim ≤ 9223372036854775807
 ownN : x.own.length = 16
 keyN : x.key.length = 16
 client0 : -9223372036854775808 ≤ x.client
 client1 : x.client ≤ 9223372036854775807
 num0 : 0 ≤ x.num
 num1 : x.num < 18446744073709551616
theorem Qt.len {x : Qt} (ok : x.Ok) : x.C.length = 57 := by
 obtain ⟨op, id, pin, sec, lim, own, key, client, num⟩ := x
 obtain ⟨id0, id1, id2, id3, rfl⟩ := len4 ok.idN
 obtain ⟨_, _, _, _, _, _, _, _, _, _, _, _, _, _, _, _, rfl⟩ := len16 ok.pinN
 obtain ⟨_, _, _, _, _, _, _, _, _, _, _, _, _, _, _, _, rfl⟩ := len16 ok.ownN
 obtain ⟨_, _, _, _, _, _, _, _, _, _, _, _, _, _, _, _, rfl⟩ := len16 ok.keyN
 rfl
theorem Qt.ones (x : Qt) : x.C.toArray.all (·.oneCell') = true := all_oneCell_toArray (by
 intro v hv
 unfold Qt.C at hv
 simp only [List.mem_append, List.mem_cons, List.not_mem_nil, or_false] at hv
 rcases hv with (((((rfl | hv) | hv) | (rfl | rfl)) | hv) | hv) | (rfl | rfl)
 all_goals (first | rfl | exact byteCells_one hv | (cases x; rfl)))
theorem Qt.op_at {x : Qt} (ok : x.Ok) : x.C[0]? = some (.int .i64 x.op) := by
 obtain ⟨op, id, pin, sec, lim, own, key, client, num⟩ := x
 obtain ⟨id0, id1, id2, id3, rfl⟩ := len4 ok.idN
 obtain ⟨_, _, _, _, _, _, _, _, _, _, _, _, _, _, _, _, rfl⟩ := len16 ok.pinN
 obtain ⟨_, _, _, _, _, _, _, _, _, _, _, _, _, _, _, _, rfl⟩ := len16 ok.ownN
 obtain ⟨_, _, _, _, _, _, _, _, _, _, _, _, _, _, _, _, rfl⟩ := len16 ok.keyN
 rfl
theorem Qt.id_at {x : Qt} (ok : x.Ok) : (x.C.drop 1).take (Lib.byteCells x.id).length = Lib.byteCells x.id := by
 obtain ⟨op, id, pin, sec, lim, own, key, client, num⟩ := x
 obtain ⟨id0, id1, id2, id3, rfl⟩ := len4 ok.idN
 obtain ⟨_, _, _, _, _, _, _, _, _, _, _, _, _, _, _, _, rfl⟩ := len16 ok.pinN
 obtain ⟨_, _, _, _, _, _, _, _, _, _, _, _, _, _, _, _, rfl⟩ := len16 ok.ownN
 obtain ⟨_, _, _, _, _, _, _, _, _, _, _, _, _, _, _, _, rfl⟩ := len16 ok.keyN
 rfl
theorem Qt.pin_at {x : Qt} (ok : x.Ok) : (x.C.drop 5).take (Lib.byteCells x.pin).length = Lib.byteCells x.pin := by
 obtain ⟨op, id, pin, sec, lim, own, key, client, num⟩ := x
 obtain ⟨id0, id1, id2, id3, rfl⟩ := len4 ok.idN
 obtain ⟨_, _, _, _, _, _, _, _, _, _, _, _, _, _, _, _, rfl⟩ := len16 ok.pinN
 obtain ⟨_, _, _, _, _, _, _, _, _, _, _, _, _, _, _, _, rfl⟩ := len16 ok.ownN
 obtain ⟨_, _, _, _, _, _, _, _, _, _, _, _, _, _, _, _, rfl⟩ := len16 ok.keyN
 rfl
theorem Qt.sec_at {x : Qt} (ok : x.Ok) : x.C[21]? = some (x.sec.V) := by
 obtain ⟨op, id, pin, sec, lim, own, key, client, num⟩ := x
 obtain ⟨id0, id1, id2, id3, rfl⟩ := len4 ok.idN
 obtain ⟨_, _, _, _, _, _, _, _, _, _, _, _, _, _, _, _, rfl⟩ := len16 ok.pinN
 obtain ⟨_, _, _, _, _, _, _, _, _, _, _, _, _, _, _, _, rfl⟩ := len16 ok.ownN
 obtain ⟨_, _, _, _, _, _, _, _, _, _, _, _, _, _, _, _, rfl⟩ := len16 ok.keyN
 rfl
theorem Qt.lim_at {x : Qt} (ok : x.Ok) : x.C[22]? = some (.int .i64 x.lim) := by
 obtain ⟨op, id, pin, sec, lim, own, key, client, num⟩ := x
 obtain ⟨id0, id1, id2, id3, rfl⟩ := len4 ok.idN
 obtain ⟨_, _, _, _, _, _, _, _, _, _, _, _, _, _, _, _, rfl⟩ := len16 ok.pinN
 obtain ⟨_, _, _, _, _, _, _, _, _, _, _, _, _, _, _, _, rfl⟩ := len16 ok.ownN
 obtain ⟨_, _, _, _, _, _, _, _, _, _, _, _, _, _, _, _, rfl⟩ := len16 ok.keyN
 rfl
theorem Qt.own_at {x : Qt} (ok : x.Ok) : (x.C.drop 23).take (Lib.byteCells x.own).length = Lib.byteCells x.own := by
 obtain ⟨op, id, pin, sec, lim, own, key, client, num⟩ := x
 obtain ⟨id0, id1, id2, id3, rfl⟩ := len4 ok.idN
 obtain ⟨_, _, _, _, _, _, _, _, _, _, _, _, _, _, _, _, rfl⟩ := len16 ok.pinN
 obtain ⟨_, _, _, _, _, _, _, _, _, _, _, _, _, _, _, _, rfl⟩ := len16 ok.ownN
 obtain ⟨_, _, _, _, _, _, _, _, _, _, _, _, _, _, _, _, rfl⟩ := len16 ok.keyN
 rfl
theorem Qt.client_at {x : Qt} (ok : x.Ok) : x.C[55]? = some (.int .i64 x.client) := by
 obtain ⟨op, id, pin, sec, lim, own, key, client, num⟩ := x
 obtain ⟨id0, id1, id2, id3, rfl⟩ := len4 ok.idN
 obtain ⟨_, _, _, _, _, _, _, _, _, _, _, _, _, _, _, _, rfl⟩ := len16 ok.pinN
 obtain ⟨_, _, _, _, _, _, _, _, _, _, _, _, _, _, _, _, rfl⟩ := len16 ok.ownN
 obtain ⟨_, _, _, _, _, _, _, _, _, _, _, _, _, _, _, _, rfl⟩ := len16 ok.keyN
 rfl
theorem Qt.num_at {x : Qt} (ok : x.Ok) : x.C[56]? = some (.int .u64 x.num) := by
 obtain ⟨op, id, pin, sec, lim, own, key, client, num⟩ := x
 obtain ⟨id0, id1, id2, id3, rfl⟩ := len4 ok.idN
 obtain ⟨_, _, _, _, _, _, _, _, _, _, _, _, _, _, _, _, rfl⟩ := len16 ok.pinN
 obtain ⟨_, _, _, _, _, _, _, _, _, _, _, _, _, _, _, _, rfl⟩ := len16 ok.ownN
 obtain ⟨_, _, _, _, _, _, _, _, _, _, _, _, _, _, _, _, rfl⟩ := len16 ok.keyN
 rfl
def QB (w : World) (g : Nat) (x : Qt) : Prop := x.Ok ∧ Bk w g 86 x.C.toArray
theorem QB.ext {w w' : World} {g : Nat} {x : Qt} (h : QB w g x) (k : Ex w w') : QB w' g x := ⟨h.1, h.2.ext k⟩
theorem QB.lt {w : World} {g : Nat} {x : Qt} (h : QB w g x) : g < w.heap.size := h.2.lt
theorem QB.cells {w : World} {g : Nat} {x : Qt} (h : QB w g x) : w.cell? ⟨g, 0, none⟩ = some (.int .i64 x.op) ∧ w.cell? ⟨g, 21, none⟩ = some (x.sec.V) ∧ w.cell? ⟨g, 22, none⟩ = some (.int .i64 x.lim) ∧ w.cell? ⟨g, 55, none⟩ = some (.int .i64 x.client) ∧ w.cell? ⟨g, 56, none⟩ = some (.int .u64 x.num) :=
 ⟨(h.2.cell 0).trans (by rw [List.getElem?_toArray]; exact Qt.op_at h.1), (h.2.cell 21).trans (by rw [List.getElem?_toArray]; exact Qt.sec_at h.1), (h.2.cell 22).trans (by rw [List.getElem?_toArray]; exact Qt.lim_at h.1), (h.2.cell 55).trans (by rw [List.getElem?_toArray]; exact Qt.client_at h.1), (h.2.cell 56).trans (by rw [List.getElem?_toArray]; exact Qt.num_at h.1)⟩
section
variable {o : Oper} {a : Act} {w : World} {K : Act → World → Prop} {Q : Exit → Act → World → Prop}
end
structure Rt where
 why : Int
 id : List UInt8
 gen : Int
 left : Int
 sec : Pt
 client : Int
 num : Int
def Rt.C (x : Rt) : List Value := [.int .i64 x.why] ++ Lib.byteCells x.id ++ [.int .u64 x.gen, .int .i64 x.left, x.sec.V, .int .i64 x.client, .int .u64 x.num]
def Rt.V (x : Rt) : Value := .agg x.C.toArray
structure Rt.Ok (x : Rt) : Prop where
 why0 : -9223372036854775808 ≤ x.why
 why1 : x.why ≤ 9223372036854775807
 idN : x.id.length = 4
 gen0 : 0 ≤ x.gen
 gen1 : x.gen < 18446744073709551616
 left0 : -9223372036854775808 ≤ x.left
 left1 : x.left ≤ 9223372036854775807
 client0 : -9223372036854775808 ≤ x.client
 client1 : x.client ≤ 9223372036854775807
 num0 : 0 ≤ x.num
 num1 : x.num < 18446744073709551616
theorem Rt.len {x : Rt} (ok : x.Ok) : x.C.length = 10 := by
 obtain ⟨why, id, gen, left, sec, client, num⟩ := x
 obtain ⟨id0, id1, id2, id3, rfl⟩ := len4 ok.idN
 rfl
theorem Rt.ones (x : Rt) : x.C.toArray.all (·.oneCell') = true := all_oneCell_toArray (by
 intro v hv
 unfold Rt.C at hv
 simp only [List.mem_append, List.mem_cons, List.not_mem_nil, or_false] at hv
 rcases hv with (rfl | hv) | (rfl | rfl | rfl | rfl | rfl)
 all_goals (first | rfl | exact byteCells_one hv | (cases x; rfl)))
theorem Rt.why_at {x : Rt} (ok : x.Ok) : x.C[0]? = some (.int .i64 x.why) := by
 obtain ⟨why, id, gen, left, sec, client, num⟩ := x
 obtain ⟨id0, id1, id2, id3, rfl⟩ := len4 ok.idN
 rfl
theorem Rt.id_at {x : Rt} (ok : x.Ok) : (x.C.drop 1).take (Lib.byteCells x.id).length = Lib.byteCells x.id := by
 obtain ⟨why, id, gen, left, sec, client, num⟩ := x
 obtain ⟨id0, id1, id2, id3, rfl⟩ := len4 ok.idN
 rfl
theorem Rt.gen_at {x : Rt} (ok : x.Ok) : x.C[5]? = some (.int .u64 x.gen) := by
 obtain ⟨why, id, gen, left, sec, client, num⟩ := x
 obtain ⟨id0, id1, id2, id3, rfl⟩ := len4 ok.idN
 rfl
theorem Rt.left_at {x : Rt} (ok : x.Ok) : x.C[6]? = some (.int .i64 x.left) := by
 obtain ⟨why, id, gen, left, sec, client, num⟩ := x
 obtain ⟨id0, id1, id2, id3, rfl⟩ := len4 ok.idN
 rfl
theorem Rt.sec_at {x : Rt} (ok : x.Ok) : x.C[7]? = some (x.sec.V) := by
 obtain ⟨why, id, gen, left, sec, client, num⟩ := x
 obtain ⟨id0, id1, id2, id3, rfl⟩ := len4 ok.idN
 rfl
theorem Rt.client_at {x : Rt} (ok : x.Ok) : x.C[8]? = some (.int .i64 x.client) := by
 obtain ⟨why, id, gen, left, sec, client, num⟩ := x
 obtain ⟨id0, id1, id2, id3, rfl⟩ := len4 ok.idN
 rfl
theorem Rt.num_at {x : Rt} (ok : x.Ok) : x.C[9]? = some (.int .u64 x.num) := by
 obtain ⟨why, id, gen, left, sec, client, num⟩ := x
 obtain ⟨id0, id1, id2, id3, rfl⟩ := len4 ok.idN
 rfl
def RB (w : World) (g : Nat) (x : Rt) : Prop := x.Ok ∧ Bk w g 83 x.C.toArray
theorem RB.ext {w w' : World} {g : Nat} {x : Rt} (h : RB w g x) (k : Ex w w') : RB w' g x := ⟨h.1, h.2.ext k⟩
theorem RB.lt {w : World} {g : Nat} {x : Rt} (h : RB w g x) : g < w.heap.size := h.2.lt
theorem Only.rb {g h : Nat} {w w' : World} {x : Rt} (k : Only g w w') (hb : RB w h x) (hne : h ≠ g) : RB w' h x := ⟨hb.1, k.bk hb.2 hne⟩
theorem Md.rb {g h : Nat} {w w' : World} {x : Rt} (k : Md g w w') (hb : RB w h x) (hne : h ≠ g) : RB w' h x := ⟨hb.1, k.bk hb.2 hne⟩
theorem RB.cells {w : World} {g : Nat} {x : Rt} (h : RB w g x) : w.cell? ⟨g, 0, none⟩ = some (.int .i64 x.why) ∧ w.cell? ⟨g, 5, none⟩ = some (.int .u64 x.gen) ∧ w.cell? ⟨g, 6, none⟩ = some (.int .i64 x.left) ∧ w.cell? ⟨g, 7, none⟩ = some (x.sec.V) ∧ w.cell? ⟨g, 8, none⟩ = some (.int .i64 x.client) ∧ w.cell? ⟨g, 9, none⟩ = some (.int .u64 x.num) :=
 ⟨(h.2.cell 0).trans (by rw [List.getElem?_toArray]; exact Rt.why_at h.1), (h.2.cell 5).trans (by rw [List.getElem?_toArray]; exact Rt.gen_at h.1), (h.2.cell 6).trans (by rw [List.getElem?_toArray]; exact Rt.left_at h.1), (h.2.cell 7).trans (by rw [List.getElem?_toArray]; exact Rt.sec_at h.1), (h.2.cell 8).trans (by rw [List.getElem?_toArray]; exact Rt.client_at h.1), (h.2.cell 9).trans (by rw [List.getElem?_toArray]; exact Rt.num_at h.1)⟩
section
variable {o : Oper} {a : Act} {w : World} {K : Act → World → Prop} {Q : Exit → Act → World → Prop}
end
end Go.Proofs.Ytmjfnpmnhehnkaa
namespace Go.Proofs.Ytmjfnpmnhehnkaa
open Go.RowKit
theorem bclone_any (p : Pt) (h8 : p.l.length ≤ 140737488355328) (w : World) (hp : p.In w w.heap.size) : Calls Try.prog 131 #[p.V] w (CPost p.l w) := by
 obtain ⟨ad, cap, l⟩ := p
 cases ad with
 | none =>
  obtain rfl : cap = 0 := hp.nil rfl
  have h0 : l = [] := List.eq_nil_of_length_eq_zero (Nat.le_zero.1 hp.cap)
  subst h0
  unfold Pt.V
  have q43 : ∀ (w : World) (a : Option Addr) (n c n' c' : Nat), (binOp .eql 25 (.slice a n c) (.slice none n' c')).run Try.prog w = .ok (.bool a.isNone) w := fun w a n c n' c' => Lib.run_eql_slice_nil w _ _ a n c n' c' Try.underlying25
  go_enter Try.func131, Try.ntmps131
  go_wp2_with fail
  go_ret
  exact ⟨nilB, rfl, rfl, nilB_pn _ _, Below.refl _ _⟩
 | some ad =>
  unfold Pt.V
  simp only at h8 ⊢
  obtain ⟨n, hn⟩ : ∃ n, n = l.length := ⟨_, rfl⟩
  have HN := Hi hn
  have xa : Ex w (w.alloc (.cells (#[] : Array Value) 5)) := (Below.refl _ _).alloc (Nat.le_refl _) _
  have OW := Hi (show ownU (w.alloc (.cells (#[] : Array Value) 5)) w.heap.size (.slice (some ⟨w.heap.size, 0, none⟩) 0 0) [] from World.ownsRow_lit w #[] 0 (Nat.le_refl _) (by unfold maxLen; omega) rfl)
  have HP := Hi (hp.ext xa)
  have XA := Hi xa
  rw [← hn] at h8 ⊢
  have H8 := Hi h8
  have NEWS := Hi (show 0 < n → ∃ ad', some ad = some ad' ∧ ∀ j u, (Lib.byteCells l)[j]? = some u → (w.alloc (.cells (#[] : Array Value) 5)).cell? (ad'.add j) = some u from fun h => by
   obtain ⟨a, o, e, hl, hc⟩ := HP.out.read (by show 0 < l.length; rw [← hn]; exact h)
   refine ⟨ad, rfl, fun j u hu => ?_⟩
   have hj : j < l.length := by have := (List.getElem?_eq_some_iff.1 hu).1; simpa [Lib.byteCells] using this
   have e : ad = ⟨a, o, none⟩ := Option.some.inj e
   subst e
   rw [Addr.add_lit, hc j hj, ← hu]
   simp [Lib.byteCells, List.getD, hj])
  clear hn hp xa
  have q43 : ∀ (w : World) (a : Option Addr) (n c n' c' : Nat), (binOp .eql 25 (.slice a n c) (.slice none n' c')).run Try.prog w = .ok (.bool a.isNone) w := fun w a n c n' c' => Lib.run_eql_slice_nil w _ _ a n c n' c' Try.underlying25
  go_enter Try.func131, Try.ntmps131
  go_wp2_with (at_builtin; refine sm_append rfl (.tmp 5) (.tmp 6) rfl w.heap.size _ 0 (Lib.byteCells []) rfl OW.out (some ad) n cap l rfl ?_ HN.out.symm ?_ ?_ ?_ ?_; (focus (exact fun h => by cases h)); (focus (exact NEWS.out)); (focus (have := H8.out; omega)); (focus (exact XA.out.size)); intro v3 w3 hown3 hg3; have HO3 := Hi hown3; have HG3 := Hi hg3; clear hown3 hg3)
  go_ret
  have bx : Below w.heap.size (w.alloc (.cells (#[] : Array Value) 5)) w3 := (Below.refl _ _).grown HG3.out XA.out.size (fun x hx => (World.ownsRow.lt OW.out x hx).1)
  have ow : ownU w3 w.heap.size v3 l := by
   have h := HO3.out
   unfold ownU
   rw [← HN.out]
   simpa [Lib.byteCells] using h
  obtain ⟨q, hqv, hql, hqin⟩ := own_pn ow
  exact ⟨q, by rw [← hqv]; rfl, hql, hqin, Below.trans XA.out bx⟩
theorem equal_any (p q : Pt) (w : World) {B : Nat} (hp : p.In w B) (hq : q.In w B) :
  Calls Try.prog 135 #[p.V, q.V] w fun e w' => e = .returned (.bool (decide (p.l = q.l))) ∧ w = w' := by
 have c1 := pt_conv p w hp
 have c2 := pt_conv q w hq
 have hd := (strL_beq p.l q.l).symm
 obtain ⟨s, hs⟩ : ∃ s, s = strL p.l := ⟨_, rfl⟩
 obtain ⟨t, ht⟩ : ∃ s, s = strL q.l := ⟨_, rfl⟩
 rw [← hs] at c1 hd
 rw [← ht] at c2 hd
 have HD := Hi hd
 clear hs ht hd
 unfold Pt.V
 generalize p.l.length = n1 at c1 ⊢
 generalize q.l.length = n2 at c2 ⊢
 go_enter Try.func135, Try.ntmps135
 go_wp2_with fail
 go_ret
 refine ⟨congrArg Ending.returned (congrArg Value.bool ?_), rfl⟩
 rw [HD.out]
theorem same_any (p q : Pt) (w : World) {B : Nat} (hp : p.In w B) (hq : q.In w B) :
  Calls Try.prog 106 #[p.V, q.V] w fun e w' => e = .returned (.bool (decide (p.l = q.l))) ∧ w = w' := by
 have E := Hi (equal_any p q w hp hq)
 obtain ⟨d, hd⟩ : ∃ d, d = decide (p.l = q.l) := ⟨_, rfl⟩
 rw [← hd] at E ⊢
 clear hd
 unfold Pt.V at E ⊢
 go_enter Try.func106, Try.ntmps106
 go_wp2_with fail
 refine E.out.mono ?_
 rintro e w1 ⟨rfl, rfl⟩
 go_wp2_with fail
 go_ret
 exact ⟨rfl, rfl⟩
theorem limit_any (n : Int) (w : World) : Calls Try.prog 113 #[.int .i64 n] w fun e w' => e = .returned (.bool (decide (1 ≤ n ∧ n ≤ 32))) ∧ w = w' := by
 by_cases h0 : 1 ≤ n
 ·by_cases h1 : n ≤ 32
  ·go_enter Try.func113, Try.ntmps113
   go_wp2
   go_ret
   exact ⟨by simp [h0, h1], rfl⟩
  have h1' : decide (n ≤ 32) = false := by simpa using h1
  go_enter Try.func113, Try.ntmps113
  go_wp2
  go_ret
  exact ⟨by simp [h1], rfl⟩
 have h0' : decide (1 ≤ n) = false := by simpa using h0
 go_enter Try.func113, Try.ntmps113
 go_wp2
 go_ret
 exact ⟨by simp [h0], rfl⟩
theorem secret_any (p : Pt) (w : World) : Calls Try.prog 114 #[p.V] w fun e w' => e = .returned (.bool (decide (p.l.length ≤ 64))) ∧ w = w' := by
 unfold Pt.V
 generalize p.l.length = n
 have hd : decide ((n : Int) ≤ 64) = decide (n ≤ 64) := by by_cases h : n ≤ 64 <;> simp [h] <;> omega
 rw [← hd]
 clear hd
 go_enter Try.func114, Try.ntmps114
 go_wp2
 go_ret
 exact ⟨rfl, rfl⟩
theorem rnum_any (n : Int) (w : World) : Calls Try.prog 120 #[.int .u64 n] w fun e w' => e = .returned (.bool (decide (n ≤ 1099511627776))) ∧ w = w' := by
 go_enter Try.func120, Try.ntmps120
 go_wp2
 go_ret
 exact ⟨rfl, rfl⟩
def WitPost (lo hi : Int) (w : World) (e : Ending) (w' : World) : Prop := ∃ m : Int, e = .returned (.int .i64 m) ∧ lo ≤ m ∧ m ≤ hi ∧ w = w'
theorem within_any (c lo hi : Int) (hc : -9223372036854775808 ≤ c ∧ c ≤ 9223372036854775807) (h0 : -1 ≤ lo) (h1 : lo ≤ hi) (h2 : hi ≤ 10000000) (w : World) :
  Calls Try.prog 20 #[.int .i64 c, .int .i64 lo, .int .i64 hi] w (WitPost lo hi w) := by
 go_enter Try.func20, Try.ntmps20
 obtain ⟨n, hn⟩ : ∃ n, n = hi - lo + 1 := ⟨_, rfl⟩
 have n0 : 0 < n := by omega
 have m1 : c.tmod n < n := Int.tmod_lt_of_pos _ n0
 have m2 : -n < c.tmod n := by
  have h := Int.tmod_lt_of_pos (-c) n0
  rw [Int.neg_tmod] at h; omega
 have m3 := Int.emod_nonneg c (show n ≠ 0 by omega)
 have m4 := Int.emod_lt_of_pos c n0
 rw [hn] at m1 m2 m3 m4
 clear hn n0
 by_cases a1 : lo ≤ c
 ·by_cases a2 : c ≤ hi
  ·clear m1 m2 m3 m4
   go_wp2_with fail
   go_ret
   exact ⟨c, rfl, a1, a2, rfl⟩
  go_wp2_with fail
  all_goals (go_ret; refine ⟨_, rfl, ?_, ?_, rfl⟩ <;> omega)
 go_wp2_with fail
 all_goals (go_ret; refine ⟨_, rfl, ?_, ?_, rfl⟩ <;> omega)
theorem bcut_in {p : Pt} {w : World} {B : Nat} (h : p.In w B) (k : Nat) : (Pt.mk p.ad p.cap (p.l.take k)).In w B :=
 ⟨by have := h.cap; simp only [List.length_take]; omega, h.nil, fun h0 => by
  simp only [List.length_take] at h0
  obtain ⟨a, o, e, hB, hc⟩ := h.read (by omega)
  refine ⟨a, o, e, hB, fun i hi => ?_⟩
  simp only [List.length_take] at hi
  rw [hc i (by omega)]
  simp only [List.getD, List.getElem?_take]
  rw [if_pos (by omega)]⟩
theorem cut_any (p : Pt) (k : Nat) (hk : k ≤ 1000) (hk0 : 0 < k) (hL : p.l.length ≤ 9223372036854775807) (w : World) (hp : p.In w w.heap.size) : Calls Try.prog 69 #[p.V, .int .i64 k] w fun e w' => e = .returned (Pt.mk p.ad p.cap (p.l.take k)).V ∧ w = w' := by
 obtain ⟨ad, cap, l⟩ := p
 unfold Pt.V
 simp only at *
 have hcap := hp.cap
 simp only at hcap
 obtain ⟨n, hn⟩ : ∃ n, n = l.length := ⟨_, rfl⟩
 rw [← hn] at hL hcap ⊢
 by_cases h : n ≤ k
 ·have e : (l.take k).length = n := by rw [List.length_take]; omega
  rw [e]
  clear hp hn e
  have h' : (n : Int) ≤ (k : Int) := by omega
  go_enter Try.func69, Try.ntmps69
  go_wp2
  go_ret
  exact ⟨rfl, rfl⟩
 have e : (l.take k).length = k := by rw [List.length_take]; omega
 rw [e]
 obtain ⟨a, ha⟩ : ∃ a, ad = some a := by
  cases had : ad with
  | none => have := hp.nil had; simp only at this; omega
  | some a => exact ⟨a, rfl⟩
 subst ha
 clear hp hn e
 have h' : (k : Int) < (n : Int) := by omega
 have k1 : (k : Int) ≤ (cap : Int) := by omega
 have k2 : (0 : Int) ≤ (k : Int) := by omega
 have k3 : k ≤ cap := by omega
 go_enter Try.func69, Try.ntmps69
 go_wp2
 go_ret
 exact ⟨rfl, rfl⟩
end Go.Proofs.Ytmjfnpmnhehnkaa
