/- Vb -/
import Derived.Test.YtmjfnpmnhehnkaaXab
namespace Go.Proofs.Ytmjfnpmnhehnkaa
open Go.RowKit
theorem wp_build {o : Oper} {a : Act} {w : World} {K : Act → World → Prop} {Q : Exit → Act → World → Prop} (t : TypeId) (fs : Array (Nat × Operand)) (ho : o.op = .build t fs) (cells : Array Value)
  (h : Try.prog.built t (fs.toList.map fun x => (x.1, a.eval x.2)) = some cells) (hk : K (a.put o.dst (.agg cells)) w) : o.wp Try.prog a w K Q := by
 have hr := run_build (P := Try.prog) w t (fs.map fun x => (x.1, a.eval x.2)) cells (by simpa using h)
 unfold Oper.wp execOp
 simp only [ho]
 simp only [Sem.run_bind]
 rw [hr]
 exact hk
theorem wp_st1 {o : Oper} {a : Act} {w : World} {K : Act → World → Prop} {Q : Exit → Act → World → Prop} {t ty : TypeId} {C : List Value} (x y : Operand) (g off : Nat) (v : Value) (ho : o.op = .store ty x y) (ha : a.eval x = .pointer (some ⟨g, off, none⟩)) (hy : a.eval y = v) (h : Bk w g t C.toArray) (hl : off < C.length)
  (hs : (Try.prog.info? ty).map (·.size) = some 1) (h1 : v.oneCell' = true) (hk : ∀ w', Bk w' g t (C.set off v).toArray → Only g w w' → K (a.put o.dst undef) w') : o.wp Try.prog a w K Q := by
 have hc : v.cells = #[v] := by cases v <;> first | rfl | cases h1
 have ht := h.there off 1 (by simp; omega)
 have := run_storeCells_cells (P := Try.prog) g off [v] 0 w (fun j hj => by simpa using (ht j (by simpa using hj)).1) (fun j hj => by simpa using (ht j (by simpa using hj)).2) (fun u hu => by simp at hu; subst hu; exact h1)
 have hb : Bk (w.setCells g off [v]) g t (C.set off v).toArray := by have := h.put off v; simpa [World.setCells] using this
 have hr : (storeVar ty ⟨g, off, none⟩ v).run Try.prog w = .ok () (w.setCells g off [v]) := by
  cases hq : Try.prog.info? ty with
  | none => simp [hq] at hs
  | some i =>
   have hi : i.size = 1 := by simpa [hq] using hs
   simp only [Nat.add_zero] at this
   simp [storeVar, sizeOf, typeInfo, hq, hc, hi, this]
 unfold Oper.wp execOp
 simp only [ho, ha, hy, Instr.storeAt, Instr.sureAddr, Sem.run_bind, Sem.run_pure, Result.andThen_ok, hr]
 exact hk _ hb (Only.setCells g [v] off w)
theorem res_row1 {fn : Func} {a : Tmp} {t : TypeId} (h : fn.results = #[.cell a t]) (tmps : Array Value) (w : World) (g : Nat) (ha : tmps.getD a undef = .pointer (some ⟨g, 0, none⟩)) {C : List Value} {dd : TypeDesc} (hB : Bk w g t C.toArray) (hu : Try.prog.underlying t = some dd) (hr : dd.isRow = true) (hs : (Try.prog.info? t).map (·.size) = some C.length) :
  (results fn tmps).run Try.prog w = .ok (.agg C.toArray) w := by
 have ha' : tmps[a]?.getD undef = .pointer (some ⟨g, 0, none⟩) := by simpa using ha
 simp [results, h, ha', asAddr, run_loadVar_mid w g 0 t C dd hB.range hu hr hs, Sem.run_bind]
theorem res_row2 {fn : Func} {a b : Tmp} {t : TypeId} (h : fn.results = #[.cell a t, .tmp b]) (tmps : Array Value) (w : World) (g : Nat) (ha : tmps.getD a undef = .pointer (some ⟨g, 0, none⟩)) {C : List Value} {dd : TypeDesc} (hB : Bk w g t C.toArray) (hu : Try.prog.underlying t = some dd) (hr : dd.isRow = true) (hs : (Try.prog.info? t).map (·.size) = some C.length) :
  (results fn tmps).run Try.prog w = .ok (.tuple #[.agg C.toArray, tmps.getD b undef]) w := by
 have ha' : tmps[a]?.getD undef = .pointer (some ⟨g, 0, none⟩) := by simpa using ha
 simp [results, h, ha', asAddr, run_loadVar_mid w g 0 t C dd hB.range hu hr hs, Sem.run_bind]
theorem Try.sizeDig : (Try.prog.info? 34).map (·.size) = some 16 := by kernel_rfl
theorem Try.sizeId : (Try.prog.info? 32).map (·.size) = some 4 := by kernel_rfl
structure Vt where
 id : List UInt8
 gen : Int
 pin : List UInt8
 sec : Pt
 lim : Int
 used : Int
 own : List UInt8
 gone : Bool
 wiped : Bool
def Vt.C (x : Vt) : List Value := Lib.byteCells x.id ++ [.int .u64 x.gen] ++ Lib.byteCells x.pin ++ [x.sec.V, .int .i64 x.lim, .int .i64 x.used] ++ Lib.byteCells x.own ++ [.bool x.gone, .bool x.wiped]
def Vt.V (x : Vt) : Value := .agg x.C.toArray
structure Vt.Ok (x : Vt) : Prop where
 idN : x.id.length = 4
 gen0 : 0 ≤ x.gen
 gen1 : x.gen < 18446744073709551616
 pinN : x.pin.length = 16
 lim0 : -9223372036854775808 ≤ x.lim
 lim1 : x.lim ≤ 9223372036854775807
 used0 : -9223372036854775808 ≤ x.used
 used1 : x.used ≤ 9223372036854775807
 ownN : x.own.length = 16
theorem Vt.len {x : Vt} (ok : x.Ok) : x.C.length = 42 := by
 obtain ⟨id, gen, pin, sec, lim, used, own, gone, wiped⟩ := x
 obtain ⟨id0, id1, id2, id3, rfl⟩ := len4 ok.idN
 obtain ⟨_, _, _, _, _, _, _, _, _, _, _, _, _, _, _, _, rfl⟩ := len16 ok.pinN
 obtain ⟨_, _, _, _, _, _, _, _, _, _, _, _, _, _, _, _, rfl⟩ := len16 ok.ownN
 rfl
theorem Vt.ones (x : Vt) : x.C.toArray.all (·.oneCell') = true := all_oneCell_toArray (by
 intro v hv
 unfold Vt.C at hv
 simp only [List.mem_append, List.mem_cons, List.not_mem_nil, or_false] at hv
 rcases hv with ((((hv | rfl) | hv) | (rfl | rfl | rfl)) | hv) | (rfl | rfl)
 all_goals (first | rfl | exact byteCells_one hv | (cases x; rfl)))
theorem Vt.id_at {x : Vt} (ok : x.Ok) : (x.C.drop 0).take (Lib.byteCells x.id).length = Lib.byteCells x.id := by
 obtain ⟨id, gen, pin, sec, lim, used, own, gone, wiped⟩ := x
 obtain ⟨id0, id1, id2, id3, rfl⟩ := len4 ok.idN
 obtain ⟨_, _, _, _, _, _, _, _, _, _, _, _, _, _, _, _, rfl⟩ := len16 ok.pinN
 obtain ⟨_, _, _, _, _, _, _, _, _, _, _, _, _, _, _, _, rfl⟩ := len16 ok.ownN
 rfl
theorem Vt.gen_at {x : Vt} (ok : x.Ok) : x.C[4]? = some (.int .u64 x.gen) := by
 obtain ⟨id, gen, pin, sec, lim, used, own, gone, wiped⟩ := x
 obtain ⟨id0, id1, id2, id3, rfl⟩ := len4 ok.idN
 obtain ⟨_, _, _, _, _, _, _, _, _, _, _, _, _, _, _, _, rfl⟩ := len16 ok.pinN
 obtain ⟨_, _, _, _, _, _, _, _, _, _, _, _, _, _, _, _, rfl⟩ := len16 ok.ownN
 rfl
theorem Vt.pin_at {x : Vt} (ok : x.Ok) : (x.C.drop 5).take (Lib.byteCells x.pin).length = Lib.byteCells x.pin := by
 obtain ⟨id, gen, pin, sec, lim, used, own, gone, wiped⟩ := x
 obtain ⟨id0, id1, id2, id3, rfl⟩ := len4 ok.idN
 obtain ⟨_, _, _, _, _, _, _, _, _, _, _, _, _, _, _, _, rfl⟩ := len16 ok.pinN
 obtain ⟨_, _, _, _, _, _, _, _, _, _, _, _, _, _, _, _, rfl⟩ := len16 ok.ownN
 rfl
theorem Vt.sec_at {x : Vt} (ok : x.Ok) : x.C[21]? = some (x.sec.V) := by
 obtain ⟨id, gen, pin, sec, lim, used, own, gone, wiped⟩ := x
 obtain ⟨id0, id1, id2, id3, rfl⟩ := len4 ok.idN
 obtain ⟨_, _, _, _, _, _, _, _, _, _, _, _, _, _, _, _, rfl⟩ := len16 ok.pinN
 obtain ⟨_, _, _, _, _, _, _, _, _, _, _, _, _, _, _, _, rfl⟩ := len16 ok.ownN
 rfl
theorem Vt.lim_at {x : Vt} (ok : x.Ok) : x.C[22]? = some (.int .i64 x.lim) := by
 obtain ⟨id, gen, pin, sec, lim, used, own, gone, wiped⟩ := x
 obtain ⟨id0, id1, id2, id3, rfl⟩ := len4 ok.idN
 obtain ⟨_, _, _, _, _, _, _, _, _, _, _, _, _, _, _, _, rfl⟩ := len16 ok.pinN
 obtain ⟨_, _, _, _, _, _, _, _, _, _, _, _, _, _, _, _, rfl⟩ := len16 ok.ownN
 rfl
theorem Vt.used_at {x : Vt} (ok : x.Ok) : x.C[23]? = some (.int .i64 x.used) := by
 obtain ⟨id, gen, pin, sec, lim, used, own, gone, wiped⟩ := x
 obtain ⟨id0, id1, id2, id3, rfl⟩ := len4 ok.idN
 obtain ⟨_, _, _, _, _, _, _, _, _, _, _, _, _, _, _, _, rfl⟩ := len16 ok.pinN
 obtain ⟨_, _, _, _, _, _, _, _, _, _, _, _, _, _, _, _, rfl⟩ := len16 ok.ownN
 rfl
theorem Vt.own_at {x : Vt} (ok : x.Ok) : (x.C.drop 24).take (Lib.byteCells x.own).length = Lib.byteCells x.own := by
 obtain ⟨id, gen, pin, sec, lim, used, own, gone, wiped⟩ := x
 obtain ⟨id0, id1, id2, id3, rfl⟩ := len4 ok.idN
 obtain ⟨_, _, _, _, _, _, _, _, _, _, _, _, _, _, _, _, rfl⟩ := len16 ok.pinN
 obtain ⟨_, _, _, _, _, _, _, _, _, _, _, _, _, _, _, _, rfl⟩ := len16 ok.ownN
 rfl
theorem Vt.gone_at {x : Vt} (ok : x.Ok) : x.C[40]? = some (.bool x.gone) := by
 obtain ⟨id, gen, pin, sec, lim, used, own, gone, wiped⟩ := x
 obtain ⟨id0, id1, id2, id3, rfl⟩ := len4 ok.idN
 obtain ⟨_, _, _, _, _, _, _, _, _, _, _, _, _, _, _, _, rfl⟩ := len16 ok.pinN
 obtain ⟨_, _, _, _, _, _, _, _, _, _, _, _, _, _, _, _, rfl⟩ := len16 ok.ownN
 rfl
theorem Vt.wiped_at {x : Vt} (ok : x.Ok) : x.C[41]? = some (.bool x.wiped) := by
 obtain ⟨id, gen, pin, sec, lim, used, own, gone, wiped⟩ := x
 obtain ⟨id0, id1, id2, id3, rfl⟩ := len4 ok.idN
 obtain ⟨_, _, _, _, _, _, _, _, _, _, _, _, _, _, _, _, rfl⟩ := len16 ok.pinN
 obtain ⟨_, _, _, _, _, _, _, _, _, _, _, _, _, _, _, _, rfl⟩ := len16 ok.ownN
 rfl
def VB (w : World) (g : Nat) (x : Vt) : Prop := x.Ok ∧ Bk w g 36 x.C.toArray
theorem VB.ext {w w' : World} {g : Nat} {x : Vt} (h : VB w g x) (k : Ex w w') : VB w' g x := ⟨h.1, h.2.ext k⟩
theorem VB.lt {w : World} {g : Nat} {x : Vt} (h : VB w g x) : g < w.heap.size := h.2.lt
theorem Only.vb {g h : Nat} {w w' : World} {x : Vt} (k : Only g w w') (hb : VB w h x) (hne : h ≠ g) : VB w' h x := ⟨hb.1, k.bk hb.2 hne⟩
theorem Md.vb {g h : Nat} {w w' : World} {x : Vt} (k : Md g w w') (hb : VB w h x) (hne : h ≠ g) : VB w' h x := ⟨hb.1, k.bk hb.2 hne⟩
theorem VB.cells {w : World} {g : Nat} {x : Vt} (h : VB w g x) : w.cell? ⟨g, 4, none⟩ = some (.int .u64 x.gen) ∧ w.cell? ⟨g, 21, none⟩ = some (x.sec.V) ∧ w.cell? ⟨g, 22, none⟩ = some (.int .i64 x.lim) ∧ w.cell? ⟨g, 23, none⟩ = some (.int .i64 x.used) ∧ w.cell? ⟨g, 40, none⟩ = some (.bool x.gone) ∧ w.cell? ⟨g, 41, none⟩ = some (.bool x.wiped) :=
 ⟨(h.2.cell 4).trans (by rw [List.getElem?_toArray]; exact Vt.gen_at h.1), (h.2.cell 21).trans (by rw [List.getElem?_toArray]; exact Vt.sec_at h.1), (h.2.cell 22).trans (by rw [List.getElem?_toArray]; exact Vt.lim_at h.1), (h.2.cell 23).trans (by rw [List.getElem?_toArray]; exact Vt.used_at h.1), (h.2.cell 40).trans (by rw [List.getElem?_toArray]; exact Vt.gone_at h.1), (h.2.cell 41).trans (by rw [List.getElem?_toArray]; exact Vt.wiped_at h.1)⟩
theorem Try.sizeVt : (Try.prog.info? 36).map (·.size) = some 42 := by kernel_rfl
section
variable {o : Oper} {a : Act} {w : World} {K : Act → World → Prop} {Q : Exit → Act → World → Prop}
theorem ld_v (x : Operand) (g : Nat) (v : Vt) (ho : o.op = .load 36 x) (ha : a.eval x = .pointer (some ⟨g, 0, none⟩)) (h : VB w g v) (hk : K (a.put o.dst v.V) w) : o.wp Try.prog a w K Q := by
 obtain ⟨dd, hd⟩ : ∃ d, Try.prog.underlying 36 = some d ∧ d.isRow = true := ⟨_, Try.underlying36, rfl⟩
 exact wp_ldp (C := v.C) v.C x g 0 dd ho ha h.2 (by simp) hd.1 hd.2 (by rw [Try.sizeVt, Vt.len h.1]) hk
theorem st_v (x y : Operand) (g : Nat) (v : Vt) (ho : o.op = .store 36 x y) (ha : a.eval x = .pointer (some ⟨g, 0, none⟩)) (hy : a.eval y = v.V) (hv : v.Ok)
  {Y : Array Value} (hB : Bk w g 36 Y) (hY : Y.size = 42) (hk : ∀ w', VB w' g v → Only g w w' → K (a.put o.dst undef) w') : o.wp Try.prog a w K Q := by
 have hB' : Bk w g 36 Y.toList.toArray := by simpa using hB
 refine wp_stp v.C x y g 0 ho ha hy hB' (by rw [Vt.len hv]; simp [hY]) (by rw [Try.sizeVt, Vt.len hv]) v.ones (fun w' h1 h2 => hk w' ⟨hv, ?_⟩ h2)
 have e : Y.toList.take 0 ++ v.C ++ Y.toList.drop (0 + v.C.length) = v.C := by
  rw [List.take_zero, List.nil_append, List.drop_eq_nil_of_le (by rw [Vt.len hv]; simp [hY]), List.append_nil]
 rw [e] at h1; exact h1
theorem ld_vid (x : Operand) (g : Nat) (v : Vt) (ho : o.op = .load 32 x) (ha : a.eval x = .pointer (some ⟨g, 0, none⟩)) (h : VB w g v) (hk : K (a.put o.dst (digV v.id)) w) : o.wp Try.prog a w K Q := by
 obtain ⟨dd, hd⟩ : ∃ d, Try.prog.underlying 32 = some d ∧ d.isRow = true := ⟨_, Try.underlying32, rfl⟩
 exact wp_ldp (C := v.C) (Lib.byteCells v.id) x g 0 dd ho ha h.2 (Vt.id_at h.1) hd.1 hd.2 (by rw [Try.sizeId, byteCells_len, h.1.idN]) hk
theorem ld_vpin (x : Operand) (g : Nat) (v : Vt) (ho : o.op = .load 34 x) (ha : a.eval x = .pointer (some ⟨g, 5, none⟩)) (h : VB w g v) (hk : K (a.put o.dst (digV v.pin)) w) : o.wp Try.prog a w K Q := by
 obtain ⟨dd, hd⟩ : ∃ d, Try.prog.underlying 34 = some d ∧ d.isRow = true := ⟨_, Try.underlying34, rfl⟩
 exact wp_ldp (C := v.C) (Lib.byteCells v.pin) x g 5 dd ho ha h.2 (Vt.pin_at h.1) hd.1 hd.2 (by rw [Try.sizeDig, byteCells_len, h.1.pinN]) hk
theorem st_vsec {ty : TypeId} (hs : (Try.prog.info? ty).map (·.size) = some 1) (x y : Operand) (g : Nat) (v : Vt) (z : Pt) (ho : o.op = .store ty x y) (ha : a.eval x = .pointer (some ⟨g, 21, none⟩)) (hy : a.eval y = z.V) (h : VB w g v)
  (hk : ∀ w', VB w' g { v with sec := z } → Only g w w' → K (a.put o.dst undef) w') : o.wp Try.prog a w K Q := by
 refine wp_st1 x y g 21 (z.V) ho ha hy h.2 (by rw [Vt.len h.1]; decide) hs rfl (fun w' h1 h2 => hk w' ⟨⟨h.1.idN, h.1.gen0, h.1.gen1, h.1.pinN, h.1.lim0, h.1.lim1, h.1.used0, h.1.used1, h.1.ownN⟩, ?_⟩ h2)
 obtain ⟨ok, _⟩ := h
 have e : v.C.set 21 (z.V) = ({ v with sec := z } : Vt).C := by
   obtain ⟨id, gen, pin, sec, lim, used, own, gone, wiped⟩ := v
   obtain ⟨id0, id1, id2, id3, rfl⟩ := len4 ok.idN
   obtain ⟨_, _, _, _, _, _, _, _, _, _, _, _, _, _, _, _, rfl⟩ := len16 ok.pinN
   obtain ⟨_, _, _, _, _, _, _, _, _, _, _, _, _, _, _, _, rfl⟩ := len16 ok.ownN
   rfl
 rw [e] at h1; exact h1
theorem st_vused {ty : TypeId} (hs : (Try.prog.info? ty).map (·.size) = some 1) (x y : Operand) (g : Nat) (v : Vt) (z : Int) (ho : o.op = .store ty x y) (ha : a.eval x = .pointer (some ⟨g, 23, none⟩)) (hy : a.eval y = .int .i64 z) (z0 : -9223372036854775808 ≤ z) (z1 : z ≤ 9223372036854775807) (h : VB w g v)
  (hk : ∀ w', VB w' g { v with used := z } → Only g w w' → K (a.put o.dst undef) w') : o.wp Try.prog a w K Q := by
 refine wp_st1 x y g 23 (.int .i64 z) ho ha hy h.2 (by rw [Vt.len h.1]; decide) hs rfl (fun w' h1 h2 => hk w' ⟨{ h.1 with used0 := z0, used1 := z1 }, ?_⟩ h2)
 obtain ⟨ok, _⟩ := h
 have e : v.C.set 23 (.int .i64 z) = ({ v with used := z } : Vt).C := by
   obtain ⟨id, gen, pin, sec, lim, used, own, gone, wiped⟩ := v
   obtain ⟨id0, id1, id2, id3, rfl⟩ := len4 ok.idN
   obtain ⟨_, _, _, _, _, _, _, _, _, _, _, _, _, _, _, _, rfl⟩ := len16 ok.pinN
   obtain ⟨_, _, _, _, _, _, _, _, _, _, _, _, _, _, _, _, rfl⟩ := len16 ok.ownN
   rfl
 rw [e] at h1; exact h1
theorem ld_vown (x : Operand) (g : Nat) (v : Vt) (ho : o.op = .load 34 x) (ha : a.eval x = .pointer (some ⟨g, 24, none⟩)) (h : VB w g v) (hk : K (a.put o.dst (digV v.own)) w) : o.wp Try.prog a w K Q := by
 obtain ⟨dd, hd⟩ : ∃ d, Try.prog.underlying 34 = some d ∧ d.isRow = true := ⟨_, Try.underlying34, rfl⟩
 exact wp_ldp (C := v.C) (Lib.byteCells v.own) x g 24 dd ho ha h.2 (Vt.own_at h.1) hd.1 hd.2 (by rw [Try.sizeDig, byteCells_len, h.1.ownN]) hk
end
theorem res_v {fn : Func} {a : Tmp} (h : fn.results = #[.cell a 36]) (tmps : Array Value) (w : World) (g : Nat) (ha : tmps.getD a undef = .pointer (some ⟨g, 0, none⟩)) (x : Vt) (hB : VB w g x) : (results fn tmps).run Try.prog w = .ok x.V w := by
 obtain ⟨dd, hd⟩ : ∃ d, Try.prog.underlying 36 = some d ∧ d.isRow = true := ⟨_, Try.underlying36, rfl⟩
 exact res_row1 h tmps w g ha hB.2 hd.1 hd.2 (by rw [Try.sizeVt, Vt.len hB.1])
theorem res_v2 {fn : Func} {a b : Tmp} (h : fn.results = #[.cell a 36, .tmp b]) (tmps : Array Value) (w : World) (g : Nat) (ha : tmps.getD a undef = .pointer (some ⟨g, 0, none⟩)) (x : Vt) (hB : VB w g x) : (results fn tmps).run Try.prog w = .ok (.tuple #[x.V, tmps.getD b undef]) w := by
 obtain ⟨dd, hd⟩ : ∃ d, Try.prog.underlying 36 = some d ∧ d.isRow = true := ⟨_, Try.underlying36, rfl⟩
 exact res_row2 h tmps w g ha hB.2 hd.1 hd.2 (by rw [Try.sizeVt, Vt.len hB.1])
structure Qt where
 op : Int
 id : List UInt8
 pin : List UInt8
 sec : Pt
 lim : Int
 own : List UInt8
 key : List UInt8
 client : Int
 num : Int
def Qt.C (x : Qt) : List Value := [.int .i64 x.op] ++ Lib.byteCells x.id ++ Lib.byteCells x.pin ++ [x.sec.V, .int .i64 x.lim] ++ Lib.byteCells x.own ++ Lib.byteCells x.key ++ [.int .i64 x.client, .int .u64 x.num]
def Qt.V (x : Qt) : Value := .agg x.C.toArray
structure Qt.Ok (x : Qt) : Prop where
 op0 : -9223372036854775808 ≤ x.op
 op1 : x.op ≤ 9223372036854775807
 idN : x.id.length = 4
 pinN : x.pin.length = 16
 lim0 : -9223372036854775808 ≤ x.lim
 lim1 : x.lim ≤ 9223372036854775807
 ownN : x.own.length = 16
 keyN : x.key.length = 16
 client0 : -9223372036854775808 ≤ x.client
 client1 : x.client ≤ 9223372036854775807
 num0 : 0 ≤ x.num
 num1 : x.num < 18446744073709551616
theorem Qt.len {x : Qt} (ok : x.Ok) : x.C.length = 57 := by
 obtain ⟨op, id, pin, sec, lim, own, key, client, num⟩ := x
 obtain ⟨id0, id1, id2, id3, rfl⟩ := len4 ok.idN
 obtain ⟨_, _, _, _, _, _, _, _, _, _, _, _, _, _, _, _, rfl⟩ := len16 ok.pinN
 obtain ⟨_, _, _, _, _, _, _, _, _, _, _, _, _, _, _, _, rfl⟩ := len16 ok.ownN
 obtain ⟨_, _, _, _, _, _, _, _, _, _, _, _, _, _, _, _, rfl⟩ := len16 ok.keyN
 rfl
theorem Qt.ones (x : Qt) : x.C.toArray.all (·.oneCell') = true := all_oneCell_toArray (by
 intro v hv
 unfold Qt.C at hv
 simp only [List.mem_append, List.mem_cons, List.not_mem_nil, or_false] at hv
 rcases hv with (((((rfl | hv) | hv) | (rfl | rfl)) | hv) | hv) | (rfl | rfl)
 all_goals (first | rfl | exact byteCells_one hv | (cases x; rfl)))
theorem Qt.op_at {x : Qt} (ok : x.Ok) : x.C[0]? = some (.int .i64 x.op) := by
 obtain ⟨op, id, pin, sec, lim, own, key, client, num⟩ := x
 obtain ⟨id0, id1, id2, id3, rfl⟩ := len4 ok.idN
 obtain ⟨_, _, _, _, _, _, _, _, _, _, _, _, _, _, _, _, rfl⟩ := len16 ok.pinN
 obtain ⟨_, _, _, _, _, _, _, _, _, _, _, _, _, _, _, _, rfl⟩ := len16 ok.ownN
 obtain ⟨_, _, _, _, _, _, _, _, _, _, _, _, _, _, _, _, rfl⟩ := len16 ok.keyN
 rfl
theorem Qt.id_at {x : Qt} (ok : x.Ok) : (x.C.drop 1).take (Lib.byteCells x.id).length = Lib.byteCells x.id := by
 obtain ⟨op, id, pin, sec, lim, own, key, client, num⟩ := x
 obtain ⟨id0, id1, id2, id3, rfl⟩ := len4 ok.idN
 obtain ⟨_, _, _, _, _, _, _, _, _, _, _, _, _, _, _, _, rfl⟩ := len16 ok.pinN
 obtain ⟨_, _, _, _, _, _, _, _, _, _, _, _, _, _, _, _, rfl⟩ := len16 ok.ownN
 obtain ⟨_, _, _, _, _, _, _, _, _, _, _, _, _, _, _, _, rfl⟩ := len16 ok.keyN
 rfl
theorem Qt.pin_at {x : Qt} (ok : x.Ok) : (x.C.drop 5).take (Lib.byteCells x.pin).length = Lib.byteCells x.pin := by
 obtain ⟨op, id, pin, sec, lim, own, key, client, num⟩ := x
 obtain ⟨id0, id1, id2, id3, rfl⟩ := len4 ok.idN
 obtain ⟨_, _, _, _, _, _, _, _, _, _, _, _, _, _, _, _, rfl⟩ := len16 ok.pinN
 obtain ⟨_, _, _, _, _, _, _, _, _, _, _, _, _, _, _, _, rfl⟩ := len16 ok.ownN
 obtain ⟨_, _, _, _, _, _, _, _, _, _, _, _, _, _, _, _, rfl⟩ := len16 ok.keyN
 rfl
theorem Qt.sec_at {x : Qt} (ok : x.Ok) : x.C[21]? = some (x.sec.V) := by
 obtain ⟨op, id, pin, sec, lim, own, key, client, num⟩ := x
 obtain ⟨id0, id1, id2, id3, rfl⟩ := len4 ok.idN
 obtain ⟨_, _, _, _, _, _, _, _, _, _, _, _, _, _, _, _, rfl⟩ := len16 ok.pinN
 obtain ⟨_, _, _, _, _, _, _, _, _, _, _, _, _, _, _, _, rfl⟩ := len16 ok.ownN
 obtain ⟨_, _, _, _, _, _, _, _, _, _, _, _, _, _, _, _, rfl⟩ := len16 ok.keyN
 rfl
theorem Qt.lim_at {x : Qt} (ok : x.Ok) : x.C[22]? = some (.int .i64 x.lim) := by
 obtain ⟨op, id, pin, sec, lim, own, key, client, num⟩ := x
 obtain ⟨id0, id1, id2, id3, rfl⟩ := len4 ok.idN
 obtain ⟨_, _, _, _, _, _, _, _, _, _, _, _, _, _, _, _, rfl⟩ := len16 ok.pinN
 obtain ⟨_, _, _, _, _, _, _, _, _, _, _, _, _, _, _, _, rfl⟩ := len16 ok.ownN
 obtain ⟨_, _, _, _, _, _, _, _, _, _, _, _, _, _, _, _, rfl⟩ := len16 ok.keyN
 rfl
theorem Qt.own_at {x : Qt} (ok : x.Ok) : (x.C.drop 23).take (Lib.byteCells x.own).length = Lib.byteCells x.own := by
 obtain ⟨op, id, pin, sec, lim, own, key, client, num⟩ := x
 obtain ⟨id0, id1, id2, id3, rfl⟩ := len4 ok.idN
 obtain ⟨_, _, _, _, _, _, _, _, _, _, _, _, _, _, _, _, rfl⟩ := len16 ok.pinN
 obtain ⟨_, _, _, _, _, _, _, _, _, _, _, _, _, _, _, _, rfl⟩ := len16 ok.ownN
 obtain ⟨_, _, _, _, _, _, _, _, _, _, _, _, _, _, _, _, rfl⟩ := len16 ok.keyN
 rfl
theorem Qt.client_at {x : Qt} (ok : x.Ok) : x.C[55]? = some (.int .i64 x.client) := by
 obtain ⟨op, id, pin, sec, lim, own, key, client, num⟩ := x
 obtain ⟨id0, id1, id2, id3, rfl⟩ := len4 ok.idN
 obtain ⟨_, _, _, _, _, _, _, _, _, _, _, _, _, _, _, _, rfl⟩ := len16 ok.pinN
 obtain ⟨_, _, _, _, _, _, _, _, _, _, _, _, _, _, _, _, rfl⟩ := len16 ok.ownN
 obtain ⟨_, _, _, _, _, _, _, _, _, _, _, _, _, _, _, _, rfl⟩ := len16 ok.keyN
 rfl
theorem Qt.num_at {x : Qt} (ok : x.Ok) : x.C[56]? = some (.int .u64 x.num) := by
 obtain ⟨op, id, pin, sec, lim, own, key, client, num⟩ := x
 obtain ⟨id0, id1, id2, id3, rfl⟩ := len4 ok.idN
 obtain ⟨_, _, _, _, _, _, _, _, _, _, _, _, _, _, _, _, rfl⟩ := len16 ok.pinN
 obtain ⟨_, _, _, _, _, _, _, _, _, _, _, _, _, _, _, _, rfl⟩ := len16 ok.ownN
 obtain ⟨_, _, _, _, _, _, _, _, _, _, _, _, _, _, _, _, rfl⟩ := len16 ok.keyN
 rfl
def QB (w : World) (g : Nat) (x : Qt) : Prop := x.Ok ∧ Bk w g 86 x.C.toArray
theorem QB.ext {w w' : World} {g : Nat} {x : Qt} (h : QB w g x) (k : Ex w w') : QB w' g x := ⟨h.1, h.2.ext k⟩
theorem QB.lt {w : World} {g : Nat} {x : Qt} (h : QB w g x) : g < w.heap.size := h.2.lt
theorem Only.qb {g h : Nat} {w w' : World} {x : Qt} (k : Only g w w') (hb : QB w h x) (hne : h ≠ g) : QB w' h x := ⟨hb.1, k.bk hb.2 hne⟩
theorem Md.qb {g h : Nat} {w w' : World} {x : Qt} (k : Md g w w') (hb : QB w h x) (hne : h ≠ g) : QB w' h x := ⟨hb.1, k.bk hb.2 hne⟩
theorem QB.cells {w : World} {g : Nat} {x : Qt} (h : QB w g x) : w.cell? ⟨g, 0, none⟩ = some (.int .i64 x.op) ∧ w.cell? ⟨g, 21, none⟩ = some (x.sec.V) ∧ w.cell? ⟨g, 22, none⟩ = some (.int .i64 x.lim) ∧ w.cell? ⟨g, 55, none⟩ = some (.int .i64 x.client) ∧ w.cell? ⟨g, 56, none⟩ = some (.int .u64 x.num) :=
 ⟨(h.2.cell 0).trans (by rw [List.getElem?_toArray]; exact Qt.op_at h.1), (h.2.cell 21).trans (by rw [List.getElem?_toArray]; exact Qt.sec_at h.1), (h.2.cell 22).trans (by rw [List.getElem?_toArray]; exact Qt.lim_at h.1), (h.2.cell 55).trans (by rw [List.getElem?_toArray]; exact Qt.client_at h.1), (h.2.cell 56).trans (by rw [List.getElem?_toArray]; exact Qt.num_at h.1)⟩
theorem Try.sizeQt : (Try.prog.info? 86).map (·.size) = some 57 := by kernel_rfl
section
variable {o : Oper} {a : Act} {w : World} {K : Act → World → Prop} {Q : Exit → Act → World → Prop}
theorem ld_q (x : Operand) (g : Nat) (v : Qt) (ho : o.op = .load 86 x) (ha : a.eval x = .pointer (some ⟨g, 0, none⟩)) (h : QB w g v) (hk : K (a.put o.dst v.V) w) : o.wp Try.prog a w K Q := by
 obtain ⟨dd, hd⟩ : ∃ d, Try.prog.underlying 86 = some d ∧ d.isRow = true := ⟨_, Try.underlying86, rfl⟩
 exact wp_ldp (C := v.C) v.C x g 0 dd ho ha h.2 (by simp) hd.1 hd.2 (by rw [Try.sizeQt, Qt.len h.1]) hk
theorem st_q (x y : Operand) (g : Nat) (v : Qt) (ho : o.op = .store 86 x y) (ha : a.eval x = .pointer (some ⟨g, 0, none⟩)) (hy : a.eval y = v.V) (hv : v.Ok)
  {Y : Array Value} (hB : Bk w g 86 Y) (hY : Y.size = 57) (hk : ∀ w', QB w' g v → Only g w w' → K (a.put o.dst undef) w') : o.wp Try.prog a w K Q := by
 have hB' : Bk w g 86 Y.toList.toArray := by simpa using hB
 refine wp_stp v.C x y g 0 ho ha hy hB' (by rw [Qt.len hv]; simp [hY]) (by rw [Try.sizeQt, Qt.len hv]) v.ones (fun w' h1 h2 => hk w' ⟨hv, ?_⟩ h2)
 have e : Y.toList.take 0 ++ v.C ++ Y.toList.drop (0 + v.C.length) = v.C := by
  rw [List.take_zero, List.nil_append, List.drop_eq_nil_of_le (by rw [Qt.len hv]; simp [hY]), List.append_nil]
 rw [e] at h1; exact h1
theorem ld_qid (x : Operand) (g : Nat) (v : Qt) (ho : o.op = .load 32 x) (ha : a.eval x = .pointer (some ⟨g, 1, none⟩)) (h : QB w g v) (hk : K (a.put o.dst (digV v.id)) w) : o.wp Try.prog a w K Q := by
 obtain ⟨dd, hd⟩ : ∃ d, Try.prog.underlying 32 = some d ∧ d.isRow = true := ⟨_, Try.underlying32, rfl⟩
 exact wp_ldp (C := v.C) (Lib.byteCells v.id) x g 1 dd ho ha h.2 (Qt.id_at h.1) hd.1 hd.2 (by rw [Try.sizeId, byteCells_len, h.1.idN]) hk
theorem ld_qpin (x : Operand) (g : Nat) (v : Qt) (ho : o.op = .load 34 x) (ha : a.eval x = .pointer (some ⟨g, 5, none⟩)) (h : QB w g v) (hk : K (a.put o.dst (digV v.pin)) w) : o.wp Try.prog a w K Q := by
 obtain ⟨dd, hd⟩ : ∃ d, Try.prog.underlying 34 = some d ∧ d.isRow = true := ⟨_, Try.underlying34, rfl⟩
 exact wp_ldp (C := v.C) (Lib.byteCells v.pin) x g 5 dd ho ha h.2 (Qt.pin_at h.1) hd.1 hd.2 (by rw [Try.sizeDig, byteCells_len, h.1.pinN]) hk
theorem st_qpin (x y : Operand) (g : Nat) (v : Qt) (L : List UInt8) (ho : o.op = .store 34 x y) (ha : a.eval x = .pointer (some ⟨g, 5, none⟩)) (hy : a.eval y = digV L) (hL : L.length = 16) (h : QB w g v)
  (hk : ∀ w', QB w' g { v with pin := L } → Only g w w' → K (a.put o.dst undef) w') : o.wp Try.prog a w K Q := by
 refine wp_stp (Lib.byteCells L) x y g 5 ho ha hy h.2 (by rw [Qt.len h.1, byteCells_len, hL]; decide) (by rw [Try.sizeDig, byteCells_len, hL]) (bytes_one L) (fun w' h1 h2 => hk w' ⟨?_, ?_⟩ h2)
 ·exact { h.1 with pinN := hL }
 obtain ⟨ok, _⟩ := h
 have e : v.C.take 5 ++ Lib.byteCells L ++ v.C.drop (5 + (Lib.byteCells L).length) = ({ v with pin := L } : Qt).C := by
  obtain ⟨op, id, pin, sec, lim, own, key, client, num⟩ := v
  obtain ⟨id0, id1, id2, id3, rfl⟩ := len4 ok.idN
  obtain ⟨_, _, _, _, _, _, _, _, _, _, _, _, _, _, _, _, rfl⟩ := len16 ok.pinN
  obtain ⟨_, _, _, _, _, _, _, _, _, _, _, _, _, _, _, _, rfl⟩ := len16 ok.ownN
  obtain ⟨_, _, _, _, _, _, _, _, _, _, _, _, _, _, _, _, rfl⟩ := len16 ok.keyN
  obtain ⟨L0, L1, L2, L3, L4, L5, L6, L7, L8, L9, L10, L11, L12, L13, L14, L15, rfl⟩ := len16 hL
  rfl
 rw [e] at h1; exact h1
theorem st_qsec {ty : TypeId} (hs : (Try.prog.info? ty).map (·.size) = some 1) (x y : Operand) (g : Nat) (v : Qt) (z : Pt) (ho : o.op = .store ty x y) (ha : a.eval x = .pointer (some ⟨g, 21, none⟩)) (hy : a.eval y = z.V) (h : QB w g v)
  (hk : ∀ w', QB w' g { v with sec := z } → Only g w w' → K (a.put o.dst undef) w') : o.wp Try.prog a w K Q := by
 refine wp_st1 x y g 21 (z.V) ho ha hy h.2 (by rw [Qt.len h.1]; decide) hs rfl (fun w' h1 h2 => hk w' ⟨⟨h.1.op0, h.1.op1, h.1.idN, h.1.pinN, h.1.lim0, h.1.lim1, h.1.ownN, h.1.keyN, h.1.client0, h.1.client1, h.1.num0, h.1.num1⟩, ?_⟩ h2)
 obtain ⟨ok, _⟩ := h
 have e : v.C.set 21 (z.V) = ({ v with sec := z } : Qt).C := by
   obtain ⟨op, id, pin, sec, lim, own, key, client, num⟩ := v
   obtain ⟨id0, id1, id2, id3, rfl⟩ := len4 ok.idN
   obtain ⟨_, _, _, _, _, _, _, _, _, _, _, _, _, _, _, _, rfl⟩ := len16 ok.pinN
   obtain ⟨_, _, _, _, _, _, _, _, _, _, _, _, _, _, _, _, rfl⟩ := len16 ok.ownN
   obtain ⟨_, _, _, _, _, _, _, _, _, _, _, _, _, _, _, _, rfl⟩ := len16 ok.keyN
   rfl
 rw [e] at h1; exact h1
theorem st_qlim {ty : TypeId} (hs : (Try.prog.info? ty).map (·.size) = some 1) (x y : Operand) (g : Nat) (v : Qt) (z : Int) (ho : o.op = .store ty x y) (ha : a.eval x = .pointer (some ⟨g, 22, none⟩)) (hy : a.eval y = .int .i64 z) (z0 : -9223372036854775808 ≤ z) (z1 : z ≤ 9223372036854775807) (h : QB w g v)
  (hk : ∀ w', QB w' g { v with lim := z } → Only g w w' → K (a.put o.dst undef) w') : o.wp Try.prog a w K Q := by
 refine wp_st1 x y g 22 (.int .i64 z) ho ha hy h.2 (by rw [Qt.len h.1]; decide) hs rfl (fun w' h1 h2 => hk w' ⟨{ h.1 with lim0 := z0, lim1 := z1 }, ?_⟩ h2)
 obtain ⟨ok, _⟩ := h
 have e : v.C.set 22 (.int .i64 z) = ({ v with lim := z } : Qt).C := by
   obtain ⟨op, id, pin, sec, lim, own, key, client, num⟩ := v
   obtain ⟨id0, id1, id2, id3, rfl⟩ := len4 ok.idN
   obtain ⟨_, _, _, _, _, _, _, _, _, _, _, _, _, _, _, _, rfl⟩ := len16 ok.pinN
   obtain ⟨_, _, _, _, _, _, _, _, _, _, _, _, _, _, _, _, rfl⟩ := len16 ok.ownN
   obtain ⟨_, _, _, _, _, _, _, _, _, _, _, _, _, _, _, _, rfl⟩ := len16 ok.keyN
   rfl
 rw [e] at h1; exact h1
theorem ld_qown (x : Operand) (g : Nat) (v : Qt) (ho : o.op = .load 34 x) (ha : a.eval x = .pointer (some ⟨g, 23, none⟩)) (h : QB w g v) (hk : K (a.put o.dst (digV v.own)) w) : o.wp Try.prog a w K Q := by
 obtain ⟨dd, hd⟩ : ∃ d, Try.prog.underlying 34 = some d ∧ d.isRow = true := ⟨_, Try.underlying34, rfl⟩
 exact wp_ldp (C := v.C) (Lib.byteCells v.own) x g 23 dd ho ha h.2 (Qt.own_at h.1) hd.1 hd.2 (by rw [Try.sizeDig, byteCells_len, h.1.ownN]) hk
theorem st_qown (x y : Operand) (g : Nat) (v : Qt) (L : List UInt8) (ho : o.op = .store 34 x y) (ha : a.eval x = .pointer (some ⟨g, 23, none⟩)) (hy : a.eval y = digV L) (hL : L.length = 16) (h : QB w g v)
  (hk : ∀ w', QB w' g { v with own := L } → Only g w w' → K (a.put o.dst undef) w') : o.wp Try.prog a w K Q := by
 refine wp_stp (Lib.byteCells L) x y g 23 ho ha hy h.2 (by rw [Qt.len h.1, byteCells_len, hL]; decide) (by rw [Try.sizeDig, byteCells_len, hL]) (bytes_one L) (fun w' h1 h2 => hk w' ⟨?_, ?_⟩ h2)
 ·exact { h.1 with ownN := hL }
 obtain ⟨ok, _⟩ := h
 have e : v.C.take 23 ++ Lib.byteCells L ++ v.C.drop (23 + (Lib.byteCells L).length) = ({ v with own := L } : Qt).C := by
  obtain ⟨op, id, pin, sec, lim, own, key, client, num⟩ := v
  obtain ⟨id0, id1, id2, id3, rfl⟩ := len4 ok.idN
  obtain ⟨_, _, _, _, _, _, _, _, _, _, _, _, _, _, _, _, rfl⟩ := len16 ok.pinN
  obtain ⟨_, _, _, _, _, _, _, _, _, _, _, _, _, _, _, _, rfl⟩ := len16 ok.ownN
  obtain ⟨_, _, _, _, _, _, _, _, _, _, _, _, _, _, _, _, rfl⟩ := len16 ok.keyN
  obtain ⟨L0, L1, L2, L3, L4, L5, L6, L7, L8, L9, L10, L11, L12, L13, L14, L15, rfl⟩ := len16 hL
  rfl
 rw [e] at h1; exact h1
end
theorem res_q {fn : Func} {a : Tmp} (h : fn.results = #[.cell a 86]) (tmps : Array Value) (w : World) (g : Nat) (ha : tmps.getD a undef = .pointer (some ⟨g, 0, none⟩)) (x : Qt) (hB : QB w g x) : (results fn tmps).run Try.prog w = .ok x.V w := by
 obtain ⟨dd, hd⟩ : ∃ d, Try.prog.underlying 86 = some d ∧ d.isRow = true := ⟨_, Try.underlying86, rfl⟩
 exact res_row1 h tmps w g ha hB.2 hd.1 hd.2 (by rw [Try.sizeQt, Qt.len hB.1])
structure Rt where
 why : Int
 id : List UInt8
 gen : Int
 left : Int
 sec : Pt
 client : Int
 num : Int
def Rt.C (x : Rt) : List Value := [.int .i64 x.why] ++ Lib.byteCells x.id ++ [.int .u64 x.gen, .int .i64 x.left, x.sec.V, .int .i64 x.client, .int .u64 x.num]
def Rt.V (x : Rt) : Value := .agg x.C.toArray
structure Rt.Ok (x : Rt) : Prop where
 why0 : -9223372036854775808 ≤ x.why
 why1 : x.why ≤ 9223372036854775807
 idN : x.id.length = 4
 gen0 : 0 ≤ x.gen
 gen1 : x.gen < 18446744073709551616
 left0 : -9223372036854775808 ≤ x.left
 left1 : x.left ≤ 9223372036854775807
 client0 : -9223372036854775808 ≤ x.client
 client1 : x.client ≤ 9223372036854775807
 num0 : 0 ≤ x.num
 num1 : x.num < 18446744073709551616
theorem Rt.len {x : Rt} (ok : x.Ok) : x.C.length = 10 := by
 obtain ⟨why, id, gen, left, sec, client, num⟩ := x
 obtain ⟨id0, id1, id2, id3, rfl⟩ := len4 ok.idN
 rfl
theorem Rt.ones (x : Rt) : x.C.toArray.all (·.oneCell') = true := all_oneCell_toArray (by
 intro v hv
 unfold Rt.C at hv
 simp only [List.mem_append, List.mem_cons, List.not_mem_nil, or_false] at hv
 rcases hv with (rfl | hv) | (rfl | rfl | rfl | rfl | rfl)
 all_goals (first | rfl | exact byteCells_one hv | (cases x; rfl)))
theorem Rt.why_at {x : Rt} (ok : x.Ok) : x.C[0]? = some (.int .i64 x.why) := by
 obtain ⟨why, id, gen, left, sec, client, num⟩ := x
 obtain ⟨id0, id1, id2, id3, rfl⟩ := len4 ok.idN
 rfl
theorem Rt.id_at {x : Rt} (ok : x.Ok) : (x.C.drop 1).take (Lib.byteCells x.id).length = Lib.byteCells x.id := by
 obtain ⟨why, id, gen, left, sec, client, num⟩ := x
 obtain ⟨id0, id1, id2, id3, rfl⟩ := len4 ok.idN
 rfl
theorem Rt.gen_at {x : Rt} (ok : x.Ok) : x.C[5]? = some (.int .u64 x.gen) := by
 obtain ⟨why, id, gen, left, sec, client, num⟩ := x
 obtain ⟨id0, id1, id2, id3, rfl⟩ := len4 ok.idN
 rfl
theorem Rt.left_at {x : Rt} (ok : x.Ok) : x.C[6]? = some (.int .i64 x.left) := by
 obtain ⟨why, id, gen, left, sec, client, num⟩ := x
 obtain ⟨id0, id1, id2, id3, rfl⟩ := len4 ok.idN
 rfl
theorem Rt.sec_at {x : Rt} (ok : x.Ok) : x.C[7]? = some (x.sec.V) := by
 obtain ⟨why, id, gen, left, sec, client, num⟩ := x
 obtain ⟨id0, id1, id2, id3, rfl⟩ := len4 ok.idN
 rfl
theorem Rt.client_at {x : Rt} (ok : x.Ok) : x.C[8]? = some (.int .i64 x.client) := by
 obtain ⟨why, id, gen, left, sec, client, num⟩ := x
 obtain ⟨id0, id1, id2, id3, rfl⟩ := len4 ok.idN
 rfl
theorem Rt.num_at {x : Rt} (ok : x.Ok) : x.C[9]? = some (.int .u64 x.num) := by
 obtain ⟨why, id, gen, left, sec, client, num⟩ := x
 obtain ⟨id0, id1, id2, id3, rfl⟩ := len4 ok.idN
 rfl
def RB (w : World) (g : Nat) (x : Rt) : Prop := x.Ok ∧ Bk w g 83 x.C.toArray
theorem RB.ext {w w' : World} {g : Nat} {x : Rt} (h : RB w g x) (k : Ex w w') : RB w' g x := ⟨h.1, h.2.ext k⟩
theorem RB.lt {w : World} {g : Nat} {x : Rt} (h : RB w g x) : g < w.heap.size := h.2.lt
theorem Only.rb {g h : Nat} {w w' : World} {x : Rt} (k : Only g w w') (hb : RB w h x) (hne : h ≠ g) : RB w' h x := ⟨hb.1, k.bk hb.2 hne⟩
theorem Md.rb {g h : Nat} {w w' : World} {x : Rt} (k : Md g w w') (hb : RB w h x) (hne : h ≠ g) : RB w' h x := ⟨hb.1, k.bk hb.2 hne⟩
theorem RB.cells {w : World} {g : Nat} {x : Rt} (h : RB w g x) : w.cell? ⟨g, 0, none⟩ = some (.int .i64 x.why) ∧ w.cell? ⟨g, 5, none⟩ = some (.int .u64 x.gen) ∧ w.cell? ⟨g, 6, none⟩ = some (.int .i64 x.left) ∧ w.cell? ⟨g, 7, none⟩ = some (x.sec.V) ∧ w.cell? ⟨g, 8, none⟩ = some (.int .i64 x.client) ∧ w.cell? ⟨g, 9, none⟩ = some (.int .u64 x.num) :=
 ⟨(h.2.cell 0).trans (by rw [List.getElem?_toArray]; exact Rt.why_at h.1), (h.2.cell 5).trans (by rw [List.getElem?_toArray]; exact Rt.gen_at h.1), (h.2.cell 6).trans (by rw [List.getElem?_toArray]; exact Rt.left_at h.1), (h.2.cell 7).trans (by rw [List.getElem?_toArray]; exact Rt.sec_at h.1), (h.2.cell 8).trans (by rw [List.getElem?_toArray]; exact Rt.client_at h.1), (h.2.cell 9).trans (by rw [List.getElem?_toArray]; exact Rt.num_at h.1)⟩
theorem Try.sizeRt : (Try.prog.info? 83).map (·.size) = some 10 := by kernel_rfl
section
variable {o : Oper} {a : Act} {w : World} {K : Act → World → Prop} {Q : Exit → Act → World → Prop}
theorem ld_r (x : Operand) (g : Nat) (v : Rt) (ho : o.op = .load 83 x) (ha : a.eval x = .pointer (some ⟨g, 0, none⟩)) (h : RB w g v) (hk : K (a.put o.dst v.V) w) : o.wp Try.prog a w K Q := by
 obtain ⟨dd, hd⟩ : ∃ d, Try.prog.underlying 83 = some d ∧ d.isRow = true := ⟨_, Try.underlying83, rfl⟩
 exact wp_ldp (C := v.C) v.C x g 0 dd ho ha h.2 (by simp) hd.1 hd.2 (by rw [Try.sizeRt, Rt.len h.1]) hk
theorem st_r (x y : Operand) (g : Nat) (v : Rt) (ho : o.op = .store 83 x y) (ha : a.eval x = .pointer (some ⟨g, 0, none⟩)) (hy : a.eval y = v.V) (hv : v.Ok)
  {Y : Array Value} (hB : Bk w g 83 Y) (hY : Y.size = 10) (hk : ∀ w', RB w' g v → Only g w w' → K (a.put o.dst undef) w') : o.wp Try.prog a w K Q := by
 have hB' : Bk w g 83 Y.toList.toArray := by simpa using hB
 refine wp_stp v.C x y g 0 ho ha hy hB' (by rw [Rt.len hv]; simp [hY]) (by rw [Try.sizeRt, Rt.len hv]) v.ones (fun w' h1 h2 => hk w' ⟨hv, ?_⟩ h2)
 have e : Y.toList.take 0 ++ v.C ++ Y.toList.drop (0 + v.C.length) = v.C := by
  rw [List.take_zero, List.nil_append, List.drop_eq_nil_of_le (by rw [Rt.len hv]; simp [hY]), List.append_nil]
 rw [e] at h1; exact h1
theorem st_rwhy {ty : TypeId} (hs : (Try.prog.info? ty).map (·.size) = some 1) (x y : Operand) (g : Nat) (v : Rt) (z : Int) (ho : o.op = .store ty x y) (ha : a.eval x = .pointer (some ⟨g, 0, none⟩)) (hy : a.eval y = .int .i64 z) (z0 : -9223372036854775808 ≤ z) (z1 : z ≤ 9223372036854775807) (h : RB w g v)
  (hk : ∀ w', RB w' g { v with why := z } → Only g w w' → K (a.put o.dst undef) w') : o.wp Try.prog a w K Q := by
 refine wp_st1 x y g 0 (.int .i64 z) ho ha hy h.2 (by rw [Rt.len h.1]; decide) hs rfl (fun w' h1 h2 => hk w' ⟨{ h.1 with why0 := z0, why1 := z1 }, ?_⟩ h2)
 obtain ⟨ok, _⟩ := h
 have e : v.C.set 0 (.int .i64 z) = ({ v with why := z } : Rt).C := by
   obtain ⟨why, id, gen, left, sec, client, num⟩ := v
   obtain ⟨id0, id1, id2, id3, rfl⟩ := len4 ok.idN
   rfl
 rw [e] at h1; exact h1
theorem ld_rid (x : Operand) (g : Nat) (v : Rt) (ho : o.op = .load 32 x) (ha : a.eval x = .pointer (some ⟨g, 1, none⟩)) (h : RB w g v) (hk : K (a.put o.dst (digV v.id)) w) : o.wp Try.prog a w K Q := by
 obtain ⟨dd, hd⟩ : ∃ d, Try.prog.underlying 32 = some d ∧ d.isRow = true := ⟨_, Try.underlying32, rfl⟩
 exact wp_ldp (C := v.C) (Lib.byteCells v.id) x g 1 dd ho ha h.2 (Rt.id_at h.1) hd.1 hd.2 (by rw [Try.sizeId, byteCells_len, h.1.idN]) hk
theorem st_rgen {ty : TypeId} (hs : (Try.prog.info? ty).map (·.size) = some 1) (x y : Operand) (g : Nat) (v : Rt) (z : Int) (ho : o.op = .store ty x y) (ha : a.eval x = .pointer (some ⟨g, 5, none⟩)) (hy : a.eval y = .int .u64 z) (z0 : 0 ≤ z) (z1 : z < 18446744073709551616) (h : RB w g v)
  (hk : ∀ w', RB w' g { v with gen := z } → Only g w w' → K (a.put o.dst undef) w') : o.wp Try.prog a w K Q := by
 refine wp_st1 x y g 5 (.int .u64 z) ho ha hy h.2 (by rw [Rt.len h.1]; decide) hs rfl (fun w' h1 h2 => hk w' ⟨{ h.1 with gen0 := z0, gen1 := z1 }, ?_⟩ h2)
 obtain ⟨ok, _⟩ := h
 have e : v.C.set 5 (.int .u64 z) = ({ v with gen := z } : Rt).C := by
   obtain ⟨why, id, gen, left, sec, client, num⟩ := v
   obtain ⟨id0, id1, id2, id3, rfl⟩ := len4 ok.idN
   rfl
 rw [e] at h1; exact h1
theorem st_rleft {ty : TypeId} (hs : (Try.prog.info? ty).map (·.size) = some 1) (x y : Operand) (g : Nat) (v : Rt) (z : Int) (ho : o.op = .store ty x y) (ha : a.eval x = .pointer (some ⟨g, 6, none⟩)) (hy : a.eval y = .int .i64 z) (z0 : -9223372036854775808 ≤ z) (z1 : z ≤ 9223372036854775807) (h : RB w g v)
  (hk : ∀ w', RB w' g { v with left := z } → Only g w w' → K (a.put o.dst undef) w') : o.wp Try.prog a w K Q := by
 refine wp_st1 x y g 6 (.int .i64 z) ho ha hy h.2 (by rw [Rt.len h.1]; decide) hs rfl (fun w' h1 h2 => hk w' ⟨{ h.1 with left0 := z0, left1 := z1 }, ?_⟩ h2)
 obtain ⟨ok, _⟩ := h
 have e : v.C.set 6 (.int .i64 z) = ({ v with left := z } : Rt).C := by
   obtain ⟨why, id, gen, left, sec, client, num⟩ := v
   obtain ⟨id0, id1, id2, id3, rfl⟩ := len4 ok.idN
   rfl
 rw [e] at h1; exact h1
theorem st_rsec {ty : TypeId} (hs : (Try.prog.info? ty).map (·.size) = some 1) (x y : Operand) (g : Nat) (v : Rt) (z : Pt) (ho : o.op = .store ty x y) (ha : a.eval x = .pointer (some ⟨g, 7, none⟩)) (hy : a.eval y = z.V) (h : RB w g v)
  (hk : ∀ w', RB w' g { v with sec := z } → Only g w w' → K (a.put o.dst undef) w') : o.wp Try.prog a w K Q := by
 refine wp_st1 x y g 7 (z.V) ho ha hy h.2 (by rw [Rt.len h.1]; decide) hs rfl (fun w' h1 h2 => hk w' ⟨⟨h.1.why0, h.1.why1, h.1.idN, h.1.gen0, h.1.gen1, h.1.left0, h.1.left1, h.1.client0, h.1.client1, h.1.num0, h.1.num1⟩, ?_⟩ h2)
 obtain ⟨ok, _⟩ := h
 have e : v.C.set 7 (z.V) = ({ v with sec := z } : Rt).C := by
   obtain ⟨why, id, gen, left, sec, client, num⟩ := v
   obtain ⟨id0, id1, id2, id3, rfl⟩ := len4 ok.idN
   rfl
 rw [e] at h1; exact h1
theorem st_rnum {ty : TypeId} (hs : (Try.prog.info? ty).map (·.size) = some 1) (x y : Operand) (g : Nat) (v : Rt) (z : Int) (ho : o.op = .store ty x y) (ha : a.eval x = .pointer (some ⟨g, 9, none⟩)) (hy : a.eval y = .int .u64 z) (z0 : 0 ≤ z) (z1 : z < 18446744073709551616) (h : RB w g v)
  (hk : ∀ w', RB w' g { v with num := z } → Only g w w' → K (a.put o.dst undef) w') : o.wp Try.prog a w K Q := by
 refine wp_st1 x y g 9 (.int .u64 z) ho ha hy h.2 (by rw [Rt.len h.1]; decide) hs rfl (fun w' h1 h2 => hk w' ⟨{ h.1 with num0 := z0, num1 := z1 }, ?_⟩ h2)
 obtain ⟨ok, _⟩ := h
 have e : v.C.set 9 (.int .u64 z) = ({ v with num := z } : Rt).C := by
   obtain ⟨why, id, gen, left, sec, client, num⟩ := v
   obtain ⟨id0, id1, id2, id3, rfl⟩ := len4 ok.idN
   rfl
 rw [e] at h1; exact h1
end
theorem res_r {fn : Func} {a : Tmp} (h : fn.results = #[.cell a 83]) (tmps : Array Value) (w : World) (g : Nat) (ha : tmps.getD a undef = .pointer (some ⟨g, 0, none⟩)) (x : Rt) (hB : RB w g x) : (results fn tmps).run Try.prog w = .ok x.V w := by
 obtain ⟨dd, hd⟩ : ∃ d, Try.prog.underlying 83 = some d ∧ d.isRow = true := ⟨_, Try.underlying83, rfl⟩
 exact res_row1 h tmps w g ha hB.2 hd.1 hd.2 (by rw [Try.sizeRt, Rt.len hB.1])
end Go.Proofs.Ytmjfnpmnhehnkaa
