/- Vb, Vc, Vd, Ve, Vf -/
import Derived.Test.YtopamplmpfndlaaEaa
set_option maxRecDepth 100000
set_option maxHeartbeats 16000000
namespace Go.Proofs.Ytopamplmpfndlaa
open Go.RowKit
theorem wp_build {o : Oper} {a : Act} {w : World} {K : Act → World → Prop} {Q : Exit → Act → World → Prop} (t : TypeId) (fs : Array (Nat × Operand)) (ho : o.op = .build t fs) (cells : Array Value)
  (h : Try.prog.built t (fs.toList.map fun x => (x.1, a.eval x.2)) = some cells) (hk : K (a.put o.dst (.agg cells)) w) : o.wp Try.prog a w K Q := by
 have hr := run_build (P := Try.prog) w t (fs.map fun x => (x.1, a.eval x.2)) cells (by simpa using h)
 unfold Oper.wp execOp
 simp only [ho]
 simp only [Sem.run_bind]
 rw [hr]
 exact hk
theorem wp_st1 {o : Oper} {a : Act} {w : World} {K : Act → World → Prop} {Q : Exit → Act → World → Prop} {t ty : TypeId} {C : List Value} (x y : Operand) (g off : Nat) (v : Value) (ho : o.op = .store ty x y) (ha : a.eval x = .pointer (some ⟨g, off, none⟩)) (hy : a.eval y = v) (h : Bk w g t C.toArray) (hl : off < C.length)
  (hs : (Try.prog.info? ty).map (·.size) = some 1) (h1 : v.oneCell' = true) (hk : ∀ w', Bk w' g t (C.set off v).toArray → Only g w w' → K (a.put o.dst undef) w') : o.wp Try.prog a w K Q := by
 have hc : v.cells = #[v] := by cases v <;> first | rfl | cases h1
 have ht := h.there off 1 (by simp; omega)
 have := run_storeCells_cells (P := Try.prog) g off [v] 0 w (fun j hj => by simpa using (ht j (by simpa using hj)).1) (fun j hj => by simpa using (ht j (by simpa using hj)).2) (fun u hu => by simp at hu; subst hu; exact h1)
 have hb : Bk (w.setCells g off [v]) g t (C.set off v).toArray := by have := h.put off v; simpa [World.setCells] using this
 have hr : (storeVar ty ⟨g, off, none⟩ v).run Try.prog w = .ok () (w.setCells g off [v]) := by
  cases hq : Try.prog.info? ty with
  | none => simp [hq] at hs
  | some i =>
   have hi : i.size = 1 := by simpa [hq] using hs
   simp only [Nat.add_zero] at this
   simp [storeVar, sizeOf, typeInfo, hq, hc, hi, this]
 unfold Oper.wp execOp
 simp only [ho, ha, hy, Instr.storeAt, Instr.sureAddr, Sem.run_bind, Sem.run_pure, Result.andThen_ok, hr]
 exact hk _ hb (Only.setCells g [v] off w)
theorem res_row1 {fn : Func} {a : Tmp} {t : TypeId} (h : fn.results = #[.cell a t]) (tmps : Array Value) (w : World) (g : Nat) (ha : tmps.getD a undef = .pointer (some ⟨g, 0, none⟩)) {C : List Value} {dd : TypeDesc} (hB : Bk w g t C.toArray) (hu : Try.prog.underlying t = some dd) (hr : dd.isRow = true) (hs : (Try.prog.info? t).map (·.size) = some C.length) :
  (results fn tmps).run Try.prog w = .ok (.agg C.toArray) w := by
 have ha' : tmps[a]?.getD undef = .pointer (some ⟨g, 0, none⟩) := by simpa using ha
 simp [results, h, ha', asAddr, run_loadVar_mid w g 0 t C dd hB.range hu hr hs, Sem.run_bind]
theorem res_row2 {fn : Func} {a b : Tmp} {t : TypeId} (h : fn.results = #[.cell a t, .tmp b]) (tmps : Array Value) (w : World) (g : Nat) (ha : tmps.getD a undef = .pointer (some ⟨g, 0, none⟩)) {C : List Value} {dd : TypeDesc} (hB : Bk w g t C.toArray) (hu : Try.prog.underlying t = some dd) (hr : dd.isRow = true) (hs : (Try.prog.info? t).map (·.size) = some C.length) :
  (results fn tmps).run Try.prog w = .ok (.tuple #[.agg C.toArray, tmps.getD b undef]) w := by
 have ha' : tmps[a]?.getD undef = .pointer (some ⟨g, 0, none⟩) := by simpa using ha
 simp [results, h, ha', asAddr, run_loadVar_mid w g 0 t C dd hB.range hu hr hs, Sem.run_bind]
theorem Try.sizeDig : (Try.prog.info? 36).map (·.size) = some 16 := by kernel_rfl
theorem Try.sizeId : (Try.prog.info? 26).map (·.size) = some 4 := by kernel_rfl
structure Vt where
 id : List UInt8
 gen : Int
 pin : List UInt8
 sec : Pt
 lim : Int
 used : Int
 own : List UInt8
 gone : Bool
 wiped : Bool
def Vt.C (x : Vt) : List Value := Lib.byteCells x.id ++ [.int .u64 x.gen] ++ Lib.byteCells x.pin ++ [x.sec.V, .int .i64 x.lim, .int .i64 x.used] ++ Lib.byteCells x.own ++ [.bool x.gone, .bool x.wiped]
def Vt.V (x : Vt) : Value := .agg x.C.toArray
structure Vt.Ok (x : Vt) : Prop where
 idN : x.id.length = 4
 gen0 : 0 ≤ x.gen
 gen1 : x.gen < 18446744073709551616
 pinN : x.pin.length = 16
 lim0 : -9223372036854775808 ≤ x.lim
 lim1 : x.lim ≤ 9223372036854775807
 used0 : -9223372036854775808 ≤ x.used
 used1 : x.used ≤ 9223372036854775807
 ownN : x.own.length = 16
theorem Vt.len {x : Vt} (ok : x.Ok) : x.C.length = 42 := by
 obtain ⟨id, gen, pin, sec, lim, used, own, gone, wiped⟩ := x
 obtain ⟨id0, id1, id2, id3, rfl⟩ := len4 ok.idN
 obtain ⟨_, _, _, _, _, _, _, _, _, _, _, _, _, _, _, _, rfl⟩ := len16 ok.pinN
 obtain ⟨_, _, _, _, _, _, _, _, _, _, _, _, _, _, _, _, rfl⟩ := len16 ok.ownN
 rfl
theorem Vt.ones (x : Vt) : x.C.toArray.all (·.oneCell') = true := all_oneCell_toArray (by
 intro v hv
 unfold Vt.C at hv
 simp only [List.mem_append, List.mem_cons, List.not_mem_nil, or_false] at hv
 rcases hv with ((((hv | rfl) | hv) | (rfl | rfl | rfl)) | hv) | (rfl | rfl)
 all_goals (first | rfl | exact byteCells_one hv | (cases x; rfl)))
theorem Vt.id_at {x : Vt} (ok : x.Ok) : (x.C.drop 0).take (Lib.byteCells x.id).length = Lib.byteCells x.id := by
 obtain ⟨id, gen, pin, sec, lim, used, own, gone, wiped⟩ := x
 obtain ⟨id0, id1, id2, id3, rfl⟩ := len4 ok.idN
 obtain ⟨_, _, _, _, _, _, _, _, _, _, _, _, _, _, _, _, rfl⟩ := len16 ok.pinN
 obtain ⟨_, _, _, _, _, _, _, _, _, _, _, _, _, _, _, _, rfl⟩ := len16 ok.ownN
 rfl
theorem Vt.gen_at {x : Vt} (ok : x.Ok) : x.C[4]? = some (.int .u64 x.gen) := by
 obtain ⟨id, gen, pin, sec, lim, used, own, gone, wiped⟩ := x
 obtain ⟨id0, id1, id2, id3, rfl⟩ := len4 ok.idN
 obtain ⟨_, _, _, _, _, _, _, _, _, _, _, _, _, _, _, _, rfl⟩ := len16 ok.pinN
 obtain ⟨_, _, _, _, _, _, _, _, _, _, _, _, _, _, _, _, rfl⟩ := len16 ok.ownN
 rfl
theorem Vt.pin_at {x : Vt} (ok : x.Ok) : (x.C.drop 5).take (Lib.byteCells x.pin).length = Lib.byteCells x.pin := by
 obtain ⟨id, gen, pin, sec, lim, used, own, gone, wiped⟩ := x
 obtain ⟨id0, id1, id2, id3, rfl⟩ := len4 ok.idN
 obtain ⟨_, _, _, _, _, _, _, _, _, _, _, _, _, _, _, _, rfl⟩ := len16 ok.pinN
 obtain ⟨_, _, _, _, _, _, _, _, _, _, _, _, _, _, _, _, rfl⟩ := len16 ok.ownN
 rfl
theorem Vt.sec_at {x : Vt} (ok : x.Ok) : x.C[21]? = some (x.sec.V) := by
 obtain ⟨id, gen, pin, sec, lim, used, own, gone, wiped⟩ := x
 obtain ⟨id0, id1, id2, id3, rfl⟩ := len4 ok.idN
 obtain ⟨_, _, _, _, _, _, _, _, _, _, _, _, _, _, _, _, rfl⟩ := len16 ok.pinN
 obtain ⟨_, _, _, _, _, _, _, _, _, _, _, _, _, _, _, _, rfl⟩ := len16 ok.ownN
 rfl
theorem Vt.lim_at {x : Vt} (ok : x.Ok) : x.C[22]? = some (.int .i64 x.lim) := by
 obtain ⟨id, gen, pin, sec, lim, used, own, gone, wiped⟩ := x
 obtain ⟨id0, id1, id2, id3, rfl⟩ := len4 ok.idN
 obtain ⟨_, _, _, _, _, _, _, _, _, _, _, _, _, _, _, _, rfl⟩ := len16 ok.pinN
 obtain ⟨_, _, _, _, _, _, _, _, _, _, _, _, _, _, _, _, rfl⟩ := len16 ok.ownN
 rfl
theorem Vt.used_at {x : Vt} (ok : x.Ok) : x.C[23]? = some (.int .i64 x.used) := by
 obtain ⟨id, gen, pin, sec, lim, used, own, gone, wiped⟩ := x
 obtain ⟨id0, id1, id2, id3, rfl⟩ := len4 ok.idN
 obtain ⟨_, _, _, _, _, _, _, _, _, _, _, _, _, _, _, _, rfl⟩ := len16 ok.pinN
 obtain ⟨_, _, _, _, _, _, _, _, _, _, _, _, _, _, _, _, rfl⟩ := len16 ok.ownN
 rfl
theorem Vt.own_at {x : Vt} (ok : x.Ok) : (x.C.drop 24).take (Lib.byteCells x.own).length = Lib.byteCells x.own := by
 obtain ⟨id, gen, pin, sec, lim, used, own, gone, wiped⟩ := x
 obtain ⟨id0, id1, id2, id3, rfl⟩ := len4 ok.idN
 obtain ⟨_, _, _, _, _, _, _, _, _, _, _, _, _, _, _, _, rfl⟩ := len16 ok.pinN
 obtain ⟨_, _, _, _, _, _, _, _, _, _, _, _, _, _, _, _, rfl⟩ := len16 ok.ownN
 rfl
theorem Vt.gone_at {x : Vt} (ok : x.Ok) : x.C[40]? = some (.bool x.gone) := by
 obtain ⟨id, gen, pin, sec, lim, used, own, gone, wiped⟩ := x
 obtain ⟨id0, id1, id2, id3, rfl⟩ := len4 ok.idN
 obtain ⟨_, _, _, _, _, _, _, _, _, _, _, _, _, _, _, _, rfl⟩ := len16 ok.pinN
 obtain ⟨_, _, _, _, _, _, _, _, _, _, _, _, _, _, _, _, rfl⟩ := len16 ok.ownN
 rfl
theorem Vt.wiped_at {x : Vt} (ok : x.Ok) : x.C[41]? = some (.bool x.wiped) := by
 obtain ⟨id, gen, pin, sec, lim, used, own, gone, wiped⟩ := x
 obtain ⟨id0, id1, id2, id3, rfl⟩ := len4 ok.idN
 obtain ⟨_, _, _, _, _, _, _, _, _, _, _, _, _, _, _, _, rfl⟩ := len16 ok.pinN
 obtain ⟨_, _, _, _, _, _, _, _, _, _, _, _, _, _, _, _, rfl⟩ := len16 ok.ownN
 rfl
def VB (w : World) (g : Nat) (x : Vt) : Prop := x.Ok ∧ Bk w g 78 x.C.toArray
theorem VB.ext {w w' : World} {g : Nat} {x : Vt} (h : VB w g x) (k : Ex w w') : VB w' g x := ⟨h.1, h.2.ext k⟩
theorem VB.lt {w : World} {g : Nat} {x : Vt} (h : VB w g x) : g < w.heap.size := h.2.lt
theorem Only.vb {g h : Nat} {w w' : World} {x : Vt} (k : Only g w w') (hb : VB w h x) (hne : h ≠ g) : VB w' h x := ⟨hb.1, k.bk hb.2 hne⟩
theorem Md.vb {g h : Nat} {w w' : World} {x : Vt} (k : Md g w w') (hb : VB w h x) (hne : h ≠ g) : VB w' h x := ⟨hb.1, k.bk hb.2 hne⟩
theorem VB.cells {w : World} {g : Nat} {x : Vt} (h : VB w g x) : w.cell? ⟨g, 4, none⟩ = some (.int .u64 x.gen) ∧ w.cell? ⟨g, 21, none⟩ = some (x.sec.V) ∧ w.cell? ⟨g, 22, none⟩ = some (.int .i64 x.lim) ∧ w.cell? ⟨g, 23, none⟩ = some (.int .i64 x.used) ∧ w.cell? ⟨g, 40, none⟩ = some (.bool x.gone) ∧ w.cell? ⟨g, 41, none⟩ = some (.bool x.wiped) :=
 ⟨(h.2.cell 4).trans (by rw [List.getElem?_toArray]; exact Vt.gen_at h.1), (h.2.cell 21).trans (by rw [List.getElem?_toArray]; exact Vt.sec_at h.1), (h.2.cell 22).trans (by rw [List.getElem?_toArray]; exact Vt.lim_at h.1), (h.2.cell 23).trans (by rw [List.getElem?_toArray]; exact Vt.used_at h.1), (h.2.cell 40).trans (by rw [List.getElem?_toArray]; exact Vt.gone_at h.1), (h.2.cell 41).trans (by rw [List.getElem?_toArray]; exact Vt.wiped_at h.1)⟩
section
variable {o : Oper} {a : Act} {w : World} {K : Act → World → Prop} {Q : Exit → Act → World → Prop}
end
structure Qt where
 op : Int
 id : List UInt8
 pin : List UInt8
 sec : Pt
 lim : Int
 own : List UInt8
 key : List UInt8
 client : Int
 num : Int
def Qt.C (x : Qt) : List Value := [.int .i64 x.op] ++ Lib.byteCells x.id ++ Lib.byteCells x.pin ++ [x.sec.V, .int .i64 x.lim] ++ Lib.byteCells x.own ++ Lib.byteCells x.key ++ [.int .i64 x.client, .int .u64 x.num]
def Qt.V (x : Qt) : Value := .agg x.C.toArray
structure Qt.Ok (x : Qt) : Prop where
 op0 : -9223372036854775808 ≤ x.op
 op1 : x.op ≤ 9223372036854775807
 idN : x.id.length = 4
 pinN : x.pin.length = 16
 lim0 : -9223372036854775808 ≤ x.lim
 lim1 : x.lim ≤ 9223372036854775807
 ownN : x.own.length = 16
 keyN : x.key.length = 16
 client0 : -9223372036854775808 ≤ x.client
 client1 : x.client ≤ 9223372036854775807
 num0 : 0 ≤ x.num
 num1 : x.num < 18446744073709551616
theorem Qt.len {x : Qt} (ok : x.Ok) : x.C.length = 57 := by
 obtain ⟨op, id, pin, sec, lim, own, key, client, num⟩ := x
 obtain ⟨id0, id1, id2, id3, rfl⟩ := len4 ok.idN
 obtain ⟨_, _, _, _, _, _, _, _, _, _, _, _, _, _, _, _, rfl⟩ := len16 ok.pinN
 obtain ⟨_, _, _, _, _, _, _, _, _, _, _, _, _, _, _, _, rfl⟩ := len16 ok.ownN
 obtain ⟨_, _, _, _, _, _, _, _, _, _, _, _, _, _, _, _, rfl⟩ := len16 ok.keyN
 rfl
theorem Qt.ones (x : Qt) : x.C.toArray.all (·.oneCell') = true := all_oneCell_toArray (by
 intro v hv
 unfold Qt.C at hv
 simp only [List.mem_append, List.mem_cons, List.not_mem_nil, or_false] at hv
 rcases hv with (((((rfl | hv) | hv) | (rfl | rfl)) | hv) | hv) | (rfl | rfl)
 all_goals (first | rfl | exact byteCells_one hv | (cases x; rfl)))
theorem Qt.op_at {x : Qt} (ok : x.Ok) : x.C[0]? = some (.int .i64 x.op) := by
 obtain ⟨op, id, pin, sec, lim, own, key, client, num⟩ := x
 obtain ⟨id0, id1, id2, id3, rfl⟩ := len4 ok.idN
 obtain ⟨_, _, _, _, _, _, _, _, _, _, _, _, _, _, _, _, rfl⟩ := len16 ok.pinN
 obtain ⟨_, _, _, _, _, _, _, _, _, _, _, _, _, _, _, _, rfl⟩ := len16 ok.ownN
 obtain ⟨_, _, _, _, _, _, _, _, _, _, _, _, _, _, _, _, rfl⟩ := len16 ok.keyN
 rfl
theorem Qt.id_at {x : Qt} (ok : x.Ok) : (x.C.drop 1).take (Lib.byteCells x.id).length = Lib.byteCells x.id := by
 obtain ⟨op, id, pin, sec, lim, own, key, client, num⟩ := x
 obtain ⟨id0, id1, id2, id3, rfl⟩ := len4 ok.idN
 obtain ⟨_, _, _, _, _, _, _, _, _, _, _, _, _, _, _, _, rfl⟩ := len16 ok.pinN
 obtain ⟨_, _, _, _, _, _, _, _, _, _, _, _, _, _, _, _, rfl⟩ := len16 ok.ownN
 obtain ⟨_, _, _, _, _, _, _, _, _, _, _, _, _, _, _, _, rfl⟩ := len16 ok.keyN
 rfl
theorem Qt.pin_at {x : Qt} (ok : x.Ok) : (x.C.drop 5).take (Lib.byteCells x.pin).length = Lib.byteCells x.pin := by
 obtain ⟨op, id, pin, sec, lim, own, key, client, num⟩ := x
 obtain ⟨id0, id1, id2, id3, rfl⟩ := len4 ok.idN
 obtain ⟨_, _, _, _, _, _, _, _, _, _, _, _, _, _, _, _, rfl⟩ := len16 ok.pinN
 obtain ⟨_, _, _, _, _, _, _, _, _, _, _, _, _, _, _, _, rfl⟩ := len16 ok.ownN
 obtain ⟨_, _, _, _, _, _, _, _, _, _, _, _, _, _, _, _, rfl⟩ := len16 ok.keyN
 rfl
theorem Qt.sec_at {x : Qt} (ok : x.Ok) : x.C[21]? = some (x.sec.V) := by
 obtain ⟨op, id, pin, sec, lim, own, key, client, num⟩ := x
 obtain ⟨id0, id1, id2, id3, rfl⟩ := len4 ok.idN
 obtain ⟨_, _, _, _, _, _, _, _, _, _, _, _, _, _, _, _, rfl⟩ := len16 ok.pinN
 obtain ⟨_, _, _, _, _, _, _, _, _, _, _, _, _, _, _, _, rfl⟩ := len16 ok.ownN
 obtain ⟨_, _, _, _, _, _, _, _, _, _, _, _, _, _, _, _, rfl⟩ := len16 ok.keyN
 rfl
theorem Qt.lim_at {x : Qt} (ok : x.Ok) : x.C[22]? = some (.int .i64 x.lim) := by
 obtain ⟨op, id, pin, sec, lim, own, key, client, num⟩ := x
 obtain ⟨id0, id1, id2, id3, rfl⟩ := len4 ok.idN
 obtain ⟨_, _, _, _, _, _, _, _, _, _, _, _, _, _, _, _, rfl⟩ := len16 ok.pinN
 obtain ⟨_, _, _, _, _, _, _, _, _, _, _, _, _, _, _, _, rfl⟩ := len16 ok.ownN
 obtain ⟨_, _, _, _, _, _, _, _, _, _, _, _, _, _, _, _, rfl⟩ := len16 ok.keyN
 rfl
theorem Qt.own_at {x : Qt} (ok : x.Ok) : (x.C.drop 23).take (Lib.byteCells x.own).length = Lib.byteCells x.own := by
 obtain ⟨op, id, pin, sec, lim, own, key, client, num⟩ := x
 obtain ⟨id0, id1, id2, id3, rfl⟩ := len4 ok.idN
 obtain ⟨_, _, _, _, _, _, _, _, _, _, _, _, _, _, _, _, rfl⟩ := len16 ok.pinN
 obtain ⟨_, _, _, _, _, _, _, _, _, _, _, _, _, _, _, _, rfl⟩ := len16 ok.ownN
 obtain ⟨_, _, _, _, _, _, _, _, _, _, _, _, _, _, _, _, rfl⟩ := len16 ok.keyN
 rfl
theorem Qt.key_at {x : Qt} (ok : x.Ok) : (x.C.drop 39).take (Lib.byteCells x.key).length = Lib.byteCells x.key := by
 obtain ⟨op, id, pin, sec, lim, own, key, client, num⟩ := x
 obtain ⟨id0, id1, id2, id3, rfl⟩ := len4 ok.idN
 obtain ⟨_, _, _, _, _, _, _, _, _, _, _, _, _, _, _, _, rfl⟩ := len16 ok.pinN
 obtain ⟨_, _, _, _, _, _, _, _, _, _, _, _, _, _, _, _, rfl⟩ := len16 ok.ownN
 obtain ⟨_, _, _, _, _, _, _, _, _, _, _, _, _, _, _, _, rfl⟩ := len16 ok.keyN
 rfl
theorem Qt.client_at {x : Qt} (ok : x.Ok) : x.C[55]? = some (.int .i64 x.client) := by
 obtain ⟨op, id, pin, sec, lim, own, key, client, num⟩ := x
 obtain ⟨id0, id1, id2, id3, rfl⟩ := len4 ok.idN
 obtain ⟨_, _, _, _, _, _, _, _, _, _, _, _, _, _, _, _, rfl⟩ := len16 ok.pinN
 obtain ⟨_, _, _, _, _, _, _, _, _, _, _, _, _, _, _, _, rfl⟩ := len16 ok.ownN
 obtain ⟨_, _, _, _, _, _, _, _, _, _, _, _, _, _, _, _, rfl⟩ := len16 ok.keyN
 rfl
theorem Qt.num_at {x : Qt} (ok : x.Ok) : x.C[56]? = some (.int .u64 x.num) := by
 obtain ⟨op, id, pin, sec, lim, own, key, client, num⟩ := x
 obtain ⟨id0, id1, id2, id3, rfl⟩ := len4 ok.idN
 obtain ⟨_, _, _, _, _, _, _, _, _, _, _, _, _, _, _, _, rfl⟩ := len16 ok.pinN
 obtain ⟨_, _, _, _, _, _, _, _, _, _, _, _, _, _, _, _, rfl⟩ := len16 ok.ownN
 obtain ⟨_, _, _, _, _, _, _, _, _, _, _, _, _, _, _, _, rfl⟩ := len16 ok.keyN
 rfl
def QB (w : World) (g : Nat) (x : Qt) : Prop := x.Ok ∧ Bk w g 47 x.C.toArray
theorem QB.ext {w w' : World} {g : Nat} {x : Qt} (h : QB w g x) (k : Ex w w') : QB w' g x := ⟨h.1, h.2.ext k⟩
theorem QB.lt {w : World} {g : Nat} {x : Qt} (h : QB w g x) : g < w.heap.size := h.2.lt
theorem Only.qb {g h : Nat} {w w' : World} {x : Qt} (k : Only g w w') (hb : QB w h x) (hne : h ≠ g) : QB w' h x := ⟨hb.1, k.bk hb.2 hne⟩
theorem Md.qb {g h : Nat} {w w' : World} {x : Qt} (k : Md g w w') (hb : QB w h x) (hne : h ≠ g) : QB w' h x := ⟨hb.1, k.bk hb.2 hne⟩
theorem QB.cells {w : World} {g : Nat} {x : Qt} (h : QB w g x) : w.cell? ⟨g, 0, none⟩ = some (.int .i64 x.op) ∧ w.cell? ⟨g, 21, none⟩ = some (x.sec.V) ∧ w.cell? ⟨g, 22, none⟩ = some (.int .i64 x.lim) ∧ w.cell? ⟨g, 55, none⟩ = some (.int .i64 x.client) ∧ w.cell? ⟨g, 56, none⟩ = some (.int .u64 x.num) :=
 ⟨(h.2.cell 0).trans (by rw [List.getElem?_toArray]; exact Qt.op_at h.1), (h.2.cell 21).trans (by rw [List.getElem?_toArray]; exact Qt.sec_at h.1), (h.2.cell 22).trans (by rw [List.getElem?_toArray]; exact Qt.lim_at h.1), (h.2.cell 55).trans (by rw [List.getElem?_toArray]; exact Qt.client_at h.1), (h.2.cell 56).trans (by rw [List.getElem?_toArray]; exact Qt.num_at h.1)⟩
theorem Try.sizeQt : (Try.prog.info? 47).map (·.size) = some 57 := by kernel_rfl
section
variable {o : Oper} {a : Act} {w : World} {K : Act → World → Prop} {Q : Exit → Act → World → Prop}
theorem ld_q (x : Operand) (g : Nat) (v : Qt) (ho : o.op = .load 47 x) (ha : a.eval x = .pointer (some ⟨g, 0, none⟩)) (h : QB w g v) (hk : K (a.put o.dst v.V) w) : o.wp Try.prog a w K Q := by
 obtain ⟨dd, hd⟩ : ∃ d, Try.prog.underlying 47 = some d ∧ d.isRow = true := ⟨_, Try.underlying47, rfl⟩
 exact wp_ldp (C := v.C) v.C x g 0 dd ho ha h.2 (by simp) hd.1 hd.2 (by rw [Try.sizeQt, Qt.len h.1]) hk
theorem st_q (x y : Operand) (g : Nat) (v : Qt) (ho : o.op = .store 47 x y) (ha : a.eval x = .pointer (some ⟨g, 0, none⟩)) (hy : a.eval y = v.V) (hv : v.Ok)
  {Y : Array Value} (hB : Bk w g 47 Y) (hY : Y.size = 57) (hk : ∀ w', QB w' g v → Only g w w' → K (a.put o.dst undef) w') : o.wp Try.prog a w K Q := by
 have hB' : Bk w g 47 Y.toList.toArray := by simpa using hB
 refine wp_stp v.C x y g 0 ho ha hy hB' (by rw [Qt.len hv]; simp [hY]) (by rw [Try.sizeQt, Qt.len hv]) v.ones (fun w' h1 h2 => hk w' ⟨hv, ?_⟩ h2)
 have e : Y.toList.take 0 ++ v.C ++ Y.toList.drop (0 + v.C.length) = v.C := by
  rw [List.take_zero, List.nil_append, List.drop_eq_nil_of_le (by rw [Qt.len hv]; simp [hY]), List.append_nil]
 rw [e] at h1; exact h1
theorem ld_qpin (x : Operand) (g : Nat) (v : Qt) (ho : o.op = .load 36 x) (ha : a.eval x = .pointer (some ⟨g, 5, none⟩)) (h : QB w g v) (hk : K (a.put o.dst (digV v.pin)) w) : o.wp Try.prog a w K Q := by
 obtain ⟨dd, hd⟩ : ∃ d, Try.prog.underlying 36 = some d ∧ d.isRow = true := ⟨_, Try.underlying36, rfl⟩
 exact wp_ldp (C := v.C) (Lib.byteCells v.pin) x g 5 dd ho ha h.2 (Qt.pin_at h.1) hd.1 hd.2 (by rw [Try.sizeDig, byteCells_len, h.1.pinN]) hk
theorem st_qpin (x y : Operand) (g : Nat) (v : Qt) (L : List UInt8) (ho : o.op = .store 36 x y) (ha : a.eval x = .pointer (some ⟨g, 5, none⟩)) (hy : a.eval y = digV L) (hL : L.length = 16) (h : QB w g v)
  (hk : ∀ w', QB w' g { v with pin := L } → Only g w w' → K (a.put o.dst undef) w') : o.wp Try.prog a w K Q := by
 refine wp_stp (Lib.byteCells L) x y g 5 ho ha hy h.2 (by rw [Qt.len h.1, byteCells_len, hL]; decide) (by rw [Try.sizeDig, byteCells_len, hL]) (bytes_one L) (fun w' h1 h2 => hk w' ⟨?_, ?_⟩ h2)
 ·exact { h.1 with pinN := hL }
 obtain ⟨ok, _⟩ := h
 have e : v.C.take 5 ++ Lib.byteCells L ++ v.C.drop (5 + (Lib.byteCells L).length) = ({ v with pin := L } : Qt).C := by
  obtain ⟨op, id, pin, sec, lim, own, key, client, num⟩ := v
  obtain ⟨id0, id1, id2, id3, rfl⟩ := len4 ok.idN
  obtain ⟨_, _, _, _, _, _, _, _, _, _, _, _, _, _, _, _, rfl⟩ := len16 ok.pinN
  obtain ⟨_, _, _, _, _, _, _, _, _, _, _, _, _, _, _, _, rfl⟩ := len16 ok.ownN
  obtain ⟨_, _, _, _, _, _, _, _, _, _, _, _, _, _, _, _, rfl⟩ := len16 ok.keyN
  obtain ⟨L0, L1, L2, L3, L4, L5, L6, L7, L8, L9, L10, L11, L12, L13, L14, L15, rfl⟩ := len16 hL
  rfl
 rw [e] at h1; exact h1
theorem st_qsec {ty : TypeId} (hs : (Try.prog.info? ty).map (·.size) = some 1) (x y : Operand) (g : Nat) (v : Qt) (z : Pt) (ho : o.op = .store ty x y) (ha : a.eval x = .pointer (some ⟨g, 21, none⟩)) (hy : a.eval y = z.V) (h : QB w g v)
  (hk : ∀ w', QB w' g { v with sec := z } → Only g w w' → K (a.put o.dst undef) w') : o.wp Try.prog a w K Q := by
 refine wp_st1 x y g 21 (z.V) ho ha hy h.2 (by rw [Qt.len h.1]; decide) hs rfl (fun w' h1 h2 => hk w' ⟨⟨h.1.op0, h.1.op1, h.1.idN, h.1.pinN, h.1.lim0, h.1.lim1, h.1.ownN, h.1.keyN, h.1.client0, h.1.client1, h.1.num0, h.1.num1⟩, ?_⟩ h2)
 obtain ⟨ok, _⟩ := h
 have e : v.C.set 21 (z.V) = ({ v with sec := z } : Qt).C := by
   obtain ⟨op, id, pin, sec, lim, own, key, client, num⟩ := v
   obtain ⟨id0, id1, id2, id3, rfl⟩ := len4 ok.idN
   obtain ⟨_, _, _, _, _, _, _, _, _, _, _, _, _, _, _, _, rfl⟩ := len16 ok.pinN
   obtain ⟨_, _, _, _, _, _, _, _, _, _, _, _, _, _, _, _, rfl⟩ := len16 ok.ownN
   obtain ⟨_, _, _, _, _, _, _, _, _, _, _, _, _, _, _, _, rfl⟩ := len16 ok.keyN
   rfl
 rw [e] at h1; exact h1
theorem st_qlim {ty : TypeId} (hs : (Try.prog.info? ty).map (·.size) = some 1) (x y : Operand) (g : Nat) (v : Qt) (z : Int) (ho : o.op = .store ty x y) (ha : a.eval x = .pointer (some ⟨g, 22, none⟩)) (hy : a.eval y = .int .i64 z) (z0 : -9223372036854775808 ≤ z) (z1 : z ≤ 9223372036854775807) (h : QB w g v)
  (hk : ∀ w', QB w' g { v with lim := z } → Only g w w' → K (a.put o.dst undef) w') : o.wp Try.prog a w K Q := by
 refine wp_st1 x y g 22 (.int .i64 z) ho ha hy h.2 (by rw [Qt.len h.1]; decide) hs rfl (fun w' h1 h2 => hk w' ⟨{ h.1 with lim0 := z0, lim1 := z1 }, ?_⟩ h2)
 obtain ⟨ok, _⟩ := h
 have e : v.C.set 22 (.int .i64 z) = ({ v with lim := z } : Qt).C := by
   obtain ⟨op, id, pin, sec, lim, own, key, client, num⟩ := v
   obtain ⟨id0, id1, id2, id3, rfl⟩ := len4 ok.idN
   obtain ⟨_, _, _, _, _, _, _, _, _, _, _, _, _, _, _, _, rfl⟩ := len16 ok.pinN
   obtain ⟨_, _, _, _, _, _, _, _, _, _, _, _, _, _, _, _, rfl⟩ := len16 ok.ownN
   obtain ⟨_, _, _, _, _, _, _, _, _, _, _, _, _, _, _, _, rfl⟩ := len16 ok.keyN
   rfl
 rw [e] at h1; exact h1
theorem ld_qown (x : Operand) (g : Nat) (v : Qt) (ho : o.op = .load 36 x) (ha : a.eval x = .pointer (some ⟨g, 23, none⟩)) (h : QB w g v) (hk : K (a.put o.dst (digV v.own)) w) : o.wp Try.prog a w K Q := by
 obtain ⟨dd, hd⟩ : ∃ d, Try.prog.underlying 36 = some d ∧ d.isRow = true := ⟨_, Try.underlying36, rfl⟩
 exact wp_ldp (C := v.C) (Lib.byteCells v.own) x g 23 dd ho ha h.2 (Qt.own_at h.1) hd.1 hd.2 (by rw [Try.sizeDig, byteCells_len, h.1.ownN]) hk
theorem st_qown (x y : Operand) (g : Nat) (v : Qt) (L : List UInt8) (ho : o.op = .store 36 x y) (ha : a.eval x = .pointer (some ⟨g, 23, none⟩)) (hy : a.eval y = digV L) (hL : L.length = 16) (h : QB w g v)
  (hk : ∀ w', QB w' g { v with own := L } → Only g w w' → K (a.put o.dst undef) w') : o.wp Try.prog a w K Q := by
 refine wp_stp (Lib.byteCells L) x y g 23 ho ha hy h.2 (by rw [Qt.len h.1, byteCells_len, hL]; decide) (by rw [Try.sizeDig, byteCells_len, hL]) (bytes_one L) (fun w' h1 h2 => hk w' ⟨?_, ?_⟩ h2)
 ·exact { h.1 with ownN := hL }
 obtain ⟨ok, _⟩ := h
 have e : v.C.take 23 ++ Lib.byteCells L ++ v.C.drop (23 + (Lib.byteCells L).length) = ({ v with own := L } : Qt).C := by
  obtain ⟨op, id, pin, sec, lim, own, key, client, num⟩ := v
  obtain ⟨id0, id1, id2, id3, rfl⟩ := len4 ok.idN
  obtain ⟨_, _, _, _, _, _, _, _, _, _, _, _, _, _, _, _, rfl⟩ := len16 ok.pinN
  obtain ⟨_, _, _, _, _, _, _, _, _, _, _, _, _, _, _, _, rfl⟩ := len16 ok.ownN
  obtain ⟨_, _, _, _, _, _, _, _, _, _, _, _, _, _, _, _, rfl⟩ := len16 ok.keyN
  obtain ⟨L0, L1, L2, L3, L4, L5, L6, L7, L8, L9, L10, L11, L12, L13, L14, L15, rfl⟩ := len16 hL
  rfl
 rw [e] at h1; exact h1
theorem ld_qkey (x : Operand) (g : Nat) (v : Qt) (ho : o.op = .load 36 x) (ha : a.eval x = .pointer (some ⟨g, 39, none⟩)) (h : QB w g v) (hk : K (a.put o.dst (digV v.key)) w) : o.wp Try.prog a w K Q := by
 obtain ⟨dd, hd⟩ : ∃ d, Try.prog.underlying 36 = some d ∧ d.isRow = true := ⟨_, Try.underlying36, rfl⟩
 exact wp_ldp (C := v.C) (Lib.byteCells v.key) x g 39 dd ho ha h.2 (Qt.key_at h.1) hd.1 hd.2 (by rw [Try.sizeDig, byteCells_len, h.1.keyN]) hk
theorem st_qkey (x y : Operand) (g : Nat) (v : Qt) (L : List UInt8) (ho : o.op = .store 36 x y) (ha : a.eval x = .pointer (some ⟨g, 39, none⟩)) (hy : a.eval y = digV L) (hL : L.length = 16) (h : QB w g v)
  (hk : ∀ w', QB w' g { v with key := L } → Only g w w' → K (a.put o.dst undef) w') : o.wp Try.prog a w K Q := by
 refine wp_stp (Lib.byteCells L) x y g 39 ho ha hy h.2 (by rw [Qt.len h.1, byteCells_len, hL]; decide) (by rw [Try.sizeDig, byteCells_len, hL]) (bytes_one L) (fun w' h1 h2 => hk w' ⟨?_, ?_⟩ h2)
 ·exact { h.1 with keyN := hL }
 obtain ⟨ok, _⟩ := h
 have e : v.C.take 39 ++ Lib.byteCells L ++ v.C.drop (39 + (Lib.byteCells L).length) = ({ v with key := L } : Qt).C := by
  obtain ⟨op, id, pin, sec, lim, own, key, client, num⟩ := v
  obtain ⟨id0, id1, id2, id3, rfl⟩ := len4 ok.idN
  obtain ⟨_, _, _, _, _, _, _, _, _, _, _, _, _, _, _, _, rfl⟩ := len16 ok.pinN
  obtain ⟨_, _, _, _, _, _, _, _, _, _, _, _, _, _, _, _, rfl⟩ := len16 ok.ownN
  obtain ⟨_, _, _, _, _, _, _, _, _, _, _, _, _, _, _, _, rfl⟩ := len16 ok.keyN
  obtain ⟨L0, L1, L2, L3, L4, L5, L6, L7, L8, L9, L10, L11, L12, L13, L14, L15, rfl⟩ := len16 hL
  rfl
 rw [e] at h1; exact h1
end
theorem res_q2 {fn : Func} {a b : Tmp} (h : fn.results = #[.cell a 47, .tmp b]) (tmps : Array Value) (w : World) (g : Nat) (ha : tmps.getD a undef = .pointer (some ⟨g, 0, none⟩)) (x : Qt) (hB : QB w g x) : (results fn tmps).run Try.prog w = .ok (.tuple #[x.V, tmps.getD b undef]) w := by
 obtain ⟨dd, hd⟩ : ∃ d, Try.prog.underlying 47 = some d ∧ d.isRow = true := ⟨_, Try.underlying47, rfl⟩
 exact res_row2 h tmps w g ha hB.2 hd.1 hd.2 (by rw [Try.sizeQt, Qt.len hB.1])
structure Rt where
 why : Int
 id : List UInt8
 gen : Int
 left : Int
 sec : Pt
 client : Int
 num : Int
def Rt.C (x : Rt) : List Value := [.int .i64 x.why] ++ Lib.byteCells x.id ++ [.int .u64 x.gen, .int .i64 x.left, x.sec.V, .int .i64 x.client, .int .u64 x.num]
def Rt.V (x : Rt) : Value := .agg x.C.toArray
structure Rt.Ok (x : Rt) : Prop where
 why0 : -9223372036854775808 ≤ x.why
 why1 : x.why ≤ 9223372036854775807
 idN : x.id.length = 4
 gen0 : 0 ≤ x.gen
 gen1 : x.gen < 18446744073709551616
 left0 : -9223372036854775808 ≤ x.left
 left1 : x.left ≤ 9223372036854775807
 client0 : -9223372036854775808 ≤ x.client
 client1 : x.client ≤ 9223372036854775807
 num0 : 0 ≤ x.num
 num1 : x.num < 18446744073709551616
theorem Rt.len {x : Rt} (ok : x.Ok) : x.C.length = 10 := by
 obtain ⟨why, id, gen, left, sec, client, num⟩ := x
 obtain ⟨id0, id1, id2, id3, rfl⟩ := len4 ok.idN
 rfl
theorem Rt.ones (x : Rt) : x.C.toArray.all (·.oneCell') = true := all_oneCell_toArray (by
 intro v hv
 unfold Rt.C at hv
 simp only [List.mem_append, List.mem_cons, List.not_mem_nil, or_false] at hv
 rcases hv with (rfl | hv) | (rfl | rfl | rfl | rfl | rfl)
 all_goals (first | rfl | exact byteCells_one hv | (cases x; rfl)))
theorem Rt.why_at {x : Rt} (ok : x.Ok) : x.C[0]? = some (.int .i64 x.why) := by
 obtain ⟨why, id, gen, left, sec, client, num⟩ := x
 obtain ⟨id0, id1, id2, id3, rfl⟩ := len4 ok.idN
 rfl
theorem Rt.id_at {x : Rt} (ok : x.Ok) : (x.C.drop 1).take (Lib.byteCells x.id).length = Lib.byteCells x.id := by
 obtain ⟨why, id, gen, left, sec, client, num⟩ := x
 obtain ⟨id0, id1, id2, id3, rfl⟩ := len4 ok.idN
 rfl
theorem Rt.gen_at {x : Rt} (ok : x.Ok) : x.C[5]? = some (.int .u64 x.gen) := by
 obtain ⟨why, id, gen, left, sec, client, num⟩ := x
 obtain ⟨id0, id1, id2, id3, rfl⟩ := len4 ok.idN
 rfl
theorem Rt.left_at {x : Rt} (ok : x.Ok) : x.C[6]? = some (.int .i64 x.left) := by
 obtain ⟨why, id, gen, left, sec, client, num⟩ := x
 obtain ⟨id0, id1, id2, id3, rfl⟩ := len4 ok.idN
 rfl
theorem Rt.sec_at {x : Rt} (ok : x.Ok) : x.C[7]? = some (x.sec.V) := by
 obtain ⟨why, id, gen, left, sec, client, num⟩ := x
 obtain ⟨id0, id1, id2, id3, rfl⟩ := len4 ok.idN
 rfl
theorem Rt.client_at {x : Rt} (ok : x.Ok) : x.C[8]? = some (.int .i64 x.client) := by
 obtain ⟨why, id, gen, left, sec, client, num⟩ := x
 obtain ⟨id0, id1, id2, id3, rfl⟩ := len4 ok.idN
 rfl
theorem Rt.num_at {x : Rt} (ok : x.Ok) : x.C[9]? = some (.int .u64 x.num) := by
 obtain ⟨why, id, gen, left, sec, client, num⟩ := x
 obtain ⟨id0, id1, id2, id3, rfl⟩ := len4 ok.idN
 rfl
def RB (w : World) (g : Nat) (x : Rt) : Prop := x.Ok ∧ Bk w g 29 x.C.toArray
theorem RB.ext {w w' : World} {g : Nat} {x : Rt} (h : RB w g x) (k : Ex w w') : RB w' g x := ⟨h.1, h.2.ext k⟩
theorem RB.lt {w : World} {g : Nat} {x : Rt} (h : RB w g x) : g < w.heap.size := h.2.lt
theorem Only.rb {g h : Nat} {w w' : World} {x : Rt} (k : Only g w w') (hb : RB w h x) (hne : h ≠ g) : RB w' h x := ⟨hb.1, k.bk hb.2 hne⟩
theorem Md.rb {g h : Nat} {w w' : World} {x : Rt} (k : Md g w w') (hb : RB w h x) (hne : h ≠ g) : RB w' h x := ⟨hb.1, k.bk hb.2 hne⟩
theorem RB.cells {w : World} {g : Nat} {x : Rt} (h : RB w g x) : w.cell? ⟨g, 0, none⟩ = some (.int .i64 x.why) ∧ w.cell? ⟨g, 5, none⟩ = some (.int .u64 x.gen) ∧ w.cell? ⟨g, 6, none⟩ = some (.int .i64 x.left) ∧ w.cell? ⟨g, 7, none⟩ = some (x.sec.V) ∧ w.cell? ⟨g, 8, none⟩ = some (.int .i64 x.client) ∧ w.cell? ⟨g, 9, none⟩ = some (.int .u64 x.num) :=
 ⟨(h.2.cell 0).trans (by rw [List.getElem?_toArray]; exact Rt.why_at h.1), (h.2.cell 5).trans (by rw [List.getElem?_toArray]; exact Rt.gen_at h.1), (h.2.cell 6).trans (by rw [List.getElem?_toArray]; exact Rt.left_at h.1), (h.2.cell 7).trans (by rw [List.getElem?_toArray]; exact Rt.sec_at h.1), (h.2.cell 8).trans (by rw [List.getElem?_toArray]; exact Rt.client_at h.1), (h.2.cell 9).trans (by rw [List.getElem?_toArray]; exact Rt.num_at h.1)⟩
theorem Try.sizeRt : (Try.prog.info? 29).map (·.size) = some 10 := by kernel_rfl
section
variable {o : Oper} {a : Act} {w : World} {K : Act → World → Prop} {Q : Exit → Act → World → Prop}
theorem ld_r (x : Operand) (g : Nat) (v : Rt) (ho : o.op = .load 29 x) (ha : a.eval x = .pointer (some ⟨g, 0, none⟩)) (h : RB w g v) (hk : K (a.put o.dst v.V) w) : o.wp Try.prog a w K Q := by
 obtain ⟨dd, hd⟩ : ∃ d, Try.prog.underlying 29 = some d ∧ d.isRow = true := ⟨_, Try.underlying29, rfl⟩
 exact wp_ldp (C := v.C) v.C x g 0 dd ho ha h.2 (by simp) hd.1 hd.2 (by rw [Try.sizeRt, Rt.len h.1]) hk
theorem st_r (x y : Operand) (g : Nat) (v : Rt) (ho : o.op = .store 29 x y) (ha : a.eval x = .pointer (some ⟨g, 0, none⟩)) (hy : a.eval y = v.V) (hv : v.Ok)
  {Y : Array Value} (hB : Bk w g 29 Y) (hY : Y.size = 10) (hk : ∀ w', RB w' g v → Only g w w' → K (a.put o.dst undef) w') : o.wp Try.prog a w K Q := by
 have hB' : Bk w g 29 Y.toList.toArray := by simpa using hB
 refine wp_stp v.C x y g 0 ho ha hy hB' (by rw [Rt.len hv]; simp [hY]) (by rw [Try.sizeRt, Rt.len hv]) v.ones (fun w' h1 h2 => hk w' ⟨hv, ?_⟩ h2)
 have e : Y.toList.take 0 ++ v.C ++ Y.toList.drop (0 + v.C.length) = v.C := by
  rw [List.take_zero, List.nil_append, List.drop_eq_nil_of_le (by rw [Rt.len hv]; simp [hY]), List.append_nil]
 rw [e] at h1; exact h1
theorem st_rwhy {ty : TypeId} (hs : (Try.prog.info? ty).map (·.size) = some 1) (x y : Operand) (g : Nat) (v : Rt) (z : Int) (ho : o.op = .store ty x y) (ha : a.eval x = .pointer (some ⟨g, 0, none⟩)) (hy : a.eval y = .int .i64 z) (z0 : -9223372036854775808 ≤ z) (z1 : z ≤ 9223372036854775807) (h : RB w g v)
  (hk : ∀ w', RB w' g { v with why := z } → Only g w w' → K (a.put o.dst undef) w') : o.wp Try.prog a w K Q := by
 refine wp_st1 x y g 0 (.int .i64 z) ho ha hy h.2 (by rw [Rt.len h.1]; decide) hs rfl (fun w' h1 h2 => hk w' ⟨{ h.1 with why0 := z0, why1 := z1 }, ?_⟩ h2)
 obtain ⟨ok, _⟩ := h
 have e : v.C.set 0 (.int .i64 z) = ({ v with why := z } : Rt).C := by
   obtain ⟨why, id, gen, left, sec, client, num⟩ := v
   obtain ⟨id0, id1, id2, id3, rfl⟩ := len4 ok.idN
   rfl
 rw [e] at h1; exact h1
theorem ld_rid (x : Operand) (g : Nat) (v : Rt) (ho : o.op = .load 26 x) (ha : a.eval x = .pointer (some ⟨g, 1, none⟩)) (h : RB w g v) (hk : K (a.put o.dst (digV v.id)) w) : o.wp Try.prog a w K Q := by
 obtain ⟨dd, hd⟩ : ∃ d, Try.prog.underlying 26 = some d ∧ d.isRow = true := ⟨_, Try.underlying26, rfl⟩
 exact wp_ldp (C := v.C) (Lib.byteCells v.id) x g 1 dd ho ha h.2 (Rt.id_at h.1) hd.1 hd.2 (by rw [Try.sizeId, byteCells_len, h.1.idN]) hk
theorem st_rid (x y : Operand) (g : Nat) (v : Rt) (L : List UInt8) (ho : o.op = .store 26 x y) (ha : a.eval x = .pointer (some ⟨g, 1, none⟩)) (hy : a.eval y = digV L) (hL : L.length = 4) (h : RB w g v)
  (hk : ∀ w', RB w' g { v with id := L } → Only g w w' → K (a.put o.dst undef) w') : o.wp Try.prog a w K Q := by
 refine wp_stp (Lib.byteCells L) x y g 1 ho ha hy h.2 (by rw [Rt.len h.1, byteCells_len, hL]; decide) (by rw [Try.sizeId, byteCells_len, hL]) (bytes_one L) (fun w' h1 h2 => hk w' ⟨?_, ?_⟩ h2)
 ·exact { h.1 with idN := hL }
 obtain ⟨ok, _⟩ := h
 have e : v.C.take 1 ++ Lib.byteCells L ++ v.C.drop (1 + (Lib.byteCells L).length) = ({ v with id := L } : Rt).C := by
  obtain ⟨why, id, gen, left, sec, client, num⟩ := v
  obtain ⟨id0, id1, id2, id3, rfl⟩ := len4 ok.idN
  obtain ⟨L0, L1, L2, L3, rfl⟩ := len4 hL
  rfl
 rw [e] at h1; exact h1
theorem st_rgen {ty : TypeId} (hs : (Try.prog.info? ty).map (·.size) = some 1) (x y : Operand) (g : Nat) (v : Rt) (z : Int) (ho : o.op = .store ty x y) (ha : a.eval x = .pointer (some ⟨g, 5, none⟩)) (hy : a.eval y = .int .u64 z) (z0 : 0 ≤ z) (z1 : z < 18446744073709551616) (h : RB w g v)
  (hk : ∀ w', RB w' g { v with gen := z } → Only g w w' → K (a.put o.dst undef) w') : o.wp Try.prog a w K Q := by
 refine wp_st1 x y g 5 (.int .u64 z) ho ha hy h.2 (by rw [Rt.len h.1]; decide) hs rfl (fun w' h1 h2 => hk w' ⟨{ h.1 with gen0 := z0, gen1 := z1 }, ?_⟩ h2)
 obtain ⟨ok, _⟩ := h
 have e : v.C.set 5 (.int .u64 z) = ({ v with gen := z } : Rt).C := by
   obtain ⟨why, id, gen, left, sec, client, num⟩ := v
   obtain ⟨id0, id1, id2, id3, rfl⟩ := len4 ok.idN
   rfl
 rw [e] at h1; exact h1
theorem st_rleft {ty : TypeId} (hs : (Try.prog.info? ty).map (·.size) = some 1) (x y : Operand) (g : Nat) (v : Rt) (z : Int) (ho : o.op = .store ty x y) (ha : a.eval x = .pointer (some ⟨g, 6, none⟩)) (hy : a.eval y = .int .i64 z) (z0 : -9223372036854775808 ≤ z) (z1 : z ≤ 9223372036854775807) (h : RB w g v)
  (hk : ∀ w', RB w' g { v with left := z } → Only g w w' → K (a.put o.dst undef) w') : o.wp Try.prog a w K Q := by
 refine wp_st1 x y g 6 (.int .i64 z) ho ha hy h.2 (by rw [Rt.len h.1]; decide) hs rfl (fun w' h1 h2 => hk w' ⟨{ h.1 with left0 := z0, left1 := z1 }, ?_⟩ h2)
 obtain ⟨ok, _⟩ := h
 have e : v.C.set 6 (.int .i64 z) = ({ v with left := z } : Rt).C := by
   obtain ⟨why, id, gen, left, sec, client, num⟩ := v
   obtain ⟨id0, id1, id2, id3, rfl⟩ := len4 ok.idN
   rfl
 rw [e] at h1; exact h1
theorem st_rsec {ty : TypeId} (hs : (Try.prog.info? ty).map (·.size) = some 1) (x y : Operand) (g : Nat) (v : Rt) (z : Pt) (ho : o.op = .store ty x y) (ha : a.eval x = .pointer (some ⟨g, 7, none⟩)) (hy : a.eval y = z.V) (h : RB w g v)
  (hk : ∀ w', RB w' g { v with sec := z } → Only g w w' → K (a.put o.dst undef) w') : o.wp Try.prog a w K Q := by
 refine wp_st1 x y g 7 (z.V) ho ha hy h.2 (by rw [Rt.len h.1]; decide) hs rfl (fun w' h1 h2 => hk w' ⟨⟨h.1.why0, h.1.why1, h.1.idN, h.1.gen0, h.1.gen1, h.1.left0, h.1.left1, h.1.client0, h.1.client1, h.1.num0, h.1.num1⟩, ?_⟩ h2)
 obtain ⟨ok, _⟩ := h
 have e : v.C.set 7 (z.V) = ({ v with sec := z } : Rt).C := by
   obtain ⟨why, id, gen, left, sec, client, num⟩ := v
   obtain ⟨id0, id1, id2, id3, rfl⟩ := len4 ok.idN
   rfl
 rw [e] at h1; exact h1
theorem st_rclient {ty : TypeId} (hs : (Try.prog.info? ty).map (·.size) = some 1) (x y : Operand) (g : Nat) (v : Rt) (z : Int) (ho : o.op = .store ty x y) (ha : a.eval x = .pointer (some ⟨g, 8, none⟩)) (hy : a.eval y = .int .i64 z) (z0 : -9223372036854775808 ≤ z) (z1 : z ≤ 9223372036854775807) (h : RB w g v)
  (hk : ∀ w', RB w' g { v with client := z } → Only g w w' → K (a.put o.dst undef) w') : o.wp Try.prog a w K Q := by
 refine wp_st1 x y g 8 (.int .i64 z) ho ha hy h.2 (by rw [Rt.len h.1]; decide) hs rfl (fun w' h1 h2 => hk w' ⟨{ h.1 with client0 := z0, client1 := z1 }, ?_⟩ h2)
 obtain ⟨ok, _⟩ := h
 have e : v.C.set 8 (.int .i64 z) = ({ v with client := z } : Rt).C := by
   obtain ⟨why, id, gen, left, sec, client, num⟩ := v
   obtain ⟨id0, id1, id2, id3, rfl⟩ := len4 ok.idN
   rfl
 rw [e] at h1; exact h1
theorem st_rnum {ty : TypeId} (hs : (Try.prog.info? ty).map (·.size) = some 1) (x y : Operand) (g : Nat) (v : Rt) (z : Int) (ho : o.op = .store ty x y) (ha : a.eval x = .pointer (some ⟨g, 9, none⟩)) (hy : a.eval y = .int .u64 z) (z0 : 0 ≤ z) (z1 : z < 18446744073709551616) (h : RB w g v)
  (hk : ∀ w', RB w' g { v with num := z } → Only g w w' → K (a.put o.dst undef) w') : o.wp Try.prog a w K Q := by
 refine wp_st1 x y g 9 (.int .u64 z) ho ha hy h.2 (by rw [Rt.len h.1]; decide) hs rfl (fun w' h1 h2 => hk w' ⟨{ h.1 with num0 := z0, num1 := z1 }, ?_⟩ h2)
 obtain ⟨ok, _⟩ := h
 have e : v.C.set 9 (.int .u64 z) = ({ v with num := z } : Rt).C := by
   obtain ⟨why, id, gen, left, sec, client, num⟩ := v
   obtain ⟨id0, id1, id2, id3, rfl⟩ := len4 ok.idN
   rfl
 rw [e] at h1; exact h1
end
theorem res_r {fn : Func} {a : Tmp} (h : fn.results = #[.cell a 29]) (tmps : Array Value) (w : World) (g : Nat) (ha : tmps.getD a undef = .pointer (some ⟨g, 0, none⟩)) (x : Rt) (hB : RB w g x) : (results fn tmps).run Try.prog w = .ok x.V w := by
 obtain ⟨dd, hd⟩ : ∃ d, Try.prog.underlying 29 = some d ∧ d.isRow = true := ⟨_, Try.underlying29, rfl⟩
 exact res_row1 h tmps w g ha hB.2 hd.1 hd.2 (by rw [Try.sizeRt, Rt.len hB.1])
theorem res_r2 {fn : Func} {a b : Tmp} (h : fn.results = #[.cell a 29, .tmp b]) (tmps : Array Value) (w : World) (g : Nat) (ha : tmps.getD a undef = .pointer (some ⟨g, 0, none⟩)) (x : Rt) (hB : RB w g x) : (results fn tmps).run Try.prog w = .ok (.tuple #[x.V, tmps.getD b undef]) w := by
 obtain ⟨dd, hd⟩ : ∃ d, Try.prog.underlying 29 = some d ∧ d.isRow = true := ⟨_, Try.underlying29, rfl⟩
 exact res_row2 h tmps w g ha hB.2 hd.1 hd.2 (by rw [Try.sizeRt, Rt.len hB.1])
end Go.Proofs.Ytopamplmpfndlaa
namespace Go.Proofs.Ytopamplmpfndlaa
open Go.RowKit
theorem bclone_any (p : Pt) (h8 : p.l.length ≤ 140737488355328) (w : World) (hp : p.In w w.heap.size) : Calls Try.prog 102 #[p.V] w (CPost p.l w) := by
 obtain ⟨ad, cap, l⟩ := p
 cases ad with
 | none =>
  obtain rfl : cap = 0 := hp.nil rfl
  have h0 : l = [] := List.eq_nil_of_length_eq_zero (Nat.le_zero.1 hp.cap)
  subst h0
  unfold Pt.V
  have q43 : ∀ (w : World) (a : Option Addr) (n c n' c' : Nat), (binOp .eql 23 (.slice a n c) (.slice none n' c')).run Try.prog w = .ok (.bool a.isNone) w := fun w a n c n' c' => Lib.run_eql_slice_nil w _ _ a n c n' c' Try.underlying23
  go_enter Try.func102, Try.ntmps102
  go_wp2_with fail
  go_ret
  exact ⟨nilB, rfl, rfl, nilB_pn _ _, Below.refl _ _⟩
 | some ad =>
  unfold Pt.V
  simp only at h8 ⊢
  obtain ⟨n, hn⟩ : ∃ n, n = l.length := ⟨_, rfl⟩
  have HN := Hi hn
  have xa : Ex w (w.alloc (.cells (#[] : Array Value) 5)) := (Below.refl _ _).alloc (Nat.le_refl _) _
  have OW := Hi (show ownU (w.alloc (.cells (#[] : Array Value) 5)) w.heap.size (.slice (some ⟨w.heap.size, 0, none⟩) 0 0) [] from World.ownsRow_lit w #[] 0 (Nat.le_refl _) (by unfold maxLen; omega) rfl)
  have HP := Hi (hp.ext xa)
  have XA := Hi xa
  rw [← hn] at h8 ⊢
  have H8 := Hi h8
  have NEWS := Hi (show 0 < n → ∃ ad', some ad = some ad' ∧ ∀ j u, (Lib.byteCells l)[j]? = some u → (w.alloc (.cells (#[] : Array Value) 5)).cell? (ad'.add j) = some u from fun h => by
   obtain ⟨a, o, e, hl, hc⟩ := HP.out.read (by show 0 < l.length; rw [← hn]; exact h)
   refine ⟨ad, rfl, fun j u hu => ?_⟩
   have hj : j < l.length := by have := (List.getElem?_eq_some_iff.1 hu).1; simpa [Lib.byteCells] using this
   have e : ad = ⟨a, o, none⟩ := Option.some.inj e
   subst e
   rw [Addr.add_lit, hc j hj, ← hu]
   simp [Lib.byteCells, List.getD, hj])
  clear hn hp xa
  have q43 : ∀ (w : World) (a : Option Addr) (n c n' c' : Nat), (binOp .eql 23 (.slice a n c) (.slice none n' c')).run Try.prog w = .ok (.bool a.isNone) w := fun w a n c n' c' => Lib.run_eql_slice_nil w _ _ a n c n' c' Try.underlying23
  go_enter Try.func102, Try.ntmps102
  go_wp2_with (at_builtin; refine sm_append rfl (.tmp 5) (.tmp 6) rfl w.heap.size _ 0 (Lib.byteCells []) rfl OW.out (some ad) n cap l rfl ?_ HN.out.symm ?_ ?_ ?_ ?_; (focus (exact fun h => by cases h)); (focus (exact NEWS.out)); (focus (have := H8.out; omega)); (focus (exact XA.out.size)); intro v3 w3 hown3 hg3; have HO3 := Hi hown3; have HG3 := Hi hg3; clear hown3 hg3)
  go_ret
  have bx : Below w.heap.size (w.alloc (.cells (#[] : Array Value) 5)) w3 := (Below.refl _ _).grown HG3.out XA.out.size (fun x hx => (World.ownsRow.lt OW.out x hx).1)
  have ow : ownU w3 w.heap.size v3 l := by
   have h := HO3.out
   unfold ownU
   rw [← HN.out]
   simpa [Lib.byteCells] using h
  obtain ⟨q, hqv, hql, hqin⟩ := own_pn ow
  exact ⟨q, by rw [← hqv]; rfl, hql, hqin, Below.trans XA.out bx⟩
theorem equal_any (p q : Pt) (w : World) {B : Nat} (hp : p.In w B) (hq : q.In w B) :
  Calls Try.prog 178 #[p.V, q.V] w fun e w' => e = .returned (.bool (decide (p.l = q.l))) ∧ w = w' := by
 have c1 := pt_conv p w hp
 have c2 := pt_conv q w hq
 have hd := (strL_beq p.l q.l).symm
 obtain ⟨s, hs⟩ : ∃ s, s = strL p.l := ⟨_, rfl⟩
 obtain ⟨t, ht⟩ : ∃ s, s = strL q.l := ⟨_, rfl⟩
 rw [← hs] at c1 hd
 rw [← ht] at c2 hd
 have HD := Hi hd
 clear hs ht hd
 unfold Pt.V
 generalize p.l.length = n1 at c1 ⊢
 generalize q.l.length = n2 at c2 ⊢
 go_enter Try.func178, Try.ntmps178
 go_wp2_with fail
 go_ret
 refine ⟨congrArg Ending.returned (congrArg Value.bool ?_), rfl⟩
 rw [HD.out]
theorem same_any (p q : Pt) (w : World) {B : Nat} (hp : p.In w B) (hq : q.In w B) :
  Calls Try.prog 146 #[p.V, q.V] w fun e w' => e = .returned (.bool (decide (p.l = q.l))) ∧ w = w' := by
 have E := Hi (equal_any p q w hp hq)
 obtain ⟨d, hd⟩ : ∃ d, d = decide (p.l = q.l) := ⟨_, rfl⟩
 rw [← hd] at E ⊢
 clear hd
 unfold Pt.V at E ⊢
 go_enter Try.func146, Try.ntmps146
 go_wp2_with fail
 refine E.out.mono ?_
 rintro e w1 ⟨rfl, rfl⟩
 go_wp2_with fail
 go_ret
 exact ⟨rfl, rfl⟩
theorem limit_any (n : Int) (w : World) : Calls Try.prog 142 #[.int .i64 n] w fun e w' => e = .returned (.bool (decide (1 ≤ n ∧ n ≤ 32))) ∧ w = w' := by
 by_cases h0 : 1 ≤ n
 ·by_cases h1 : n ≤ 32
  ·go_enter Try.func142, Try.ntmps142
   go_wp2
   go_ret
   exact ⟨by simp [h0, h1], rfl⟩
  have h1' : decide (n ≤ 32) = false := by simpa using h1
  go_enter Try.func142, Try.ntmps142
  go_wp2
  go_ret
  exact ⟨by simp [h1], rfl⟩
 have h0' : decide (1 ≤ n) = false := by simpa using h0
 go_enter Try.func142, Try.ntmps142
 go_wp2
 go_ret
 exact ⟨by simp [h0], rfl⟩
theorem secret_any (p : Pt) (w : World) : Calls Try.prog 143 #[p.V] w fun e w' => e = .returned (.bool (decide (p.l.length ≤ 64))) ∧ w = w' := by
 unfold Pt.V
 generalize p.l.length = n
 have hd : decide ((n : Int) ≤ 64) = decide (n ≤ 64) := by by_cases h : n ≤ 64 <;> simp [h] <;> omega
 rw [← hd]
 clear hd
 go_enter Try.func143, Try.ntmps143
 go_wp2
 go_ret
 exact ⟨rfl, rfl⟩
theorem sender_any (c n : Int) (w : World) : Calls Try.prog 141 #[.int .i64 c, .int .u64 n] w fun e w' => e = .returned (.bool (decide (0 ≤ c ∧ c < 4 ∧ n ≤ 1099511627776))) ∧ w = w' := by
 by_cases h0 : 0 ≤ c
 ·by_cases h1 : c < 4
  ·go_enter Try.func141, Try.ntmps141
   go_wp2
   go_ret
   exact ⟨by simp [h0, h1], rfl⟩
  have h1' : decide (c < 4) = false := by simpa using h1
  go_enter Try.func141, Try.ntmps141
  go_wp2
  go_ret
  exact ⟨by simp [h1], rfl⟩
 have h0' : decide (0 ≤ c) = false := by simpa using h0
 go_enter Try.func141, Try.ntmps141
 go_wp2
 go_ret
 exact ⟨by simp [h0], rfl⟩
theorem rnum_any (n : Int) (w : World) : Calls Try.prog 66 #[.int .u64 n] w fun e w' => e = .returned (.bool (decide (n ≤ 1099511627776))) ∧ w = w' := by
 go_enter Try.func66, Try.ntmps66
 go_wp2
 go_ret
 exact ⟨rfl, rfl⟩
def WitPost (lo hi : Int) (w : World) (e : Ending) (w' : World) : Prop := ∃ m : Int, e = .returned (.int .i64 m) ∧ lo ≤ m ∧ m ≤ hi ∧ w = w'
theorem within_any (c lo hi : Int) (hc : -9223372036854775808 ≤ c ∧ c ≤ 9223372036854775807) (h0 : -1 ≤ lo) (h1 : lo ≤ hi) (h2 : hi ≤ 10000000) (w : World) :
  Calls Try.prog 14 #[.int .i64 c, .int .i64 lo, .int .i64 hi] w (WitPost lo hi w) := by
 go_enter Try.func14, Try.ntmps14
 obtain ⟨n, hn⟩ : ∃ n, n = hi - lo + 1 := ⟨_, rfl⟩
 have n0 : 0 < n := by omega
 have m1 : c.tmod n < n := Int.tmod_lt_of_pos _ n0
 have m2 : -n < c.tmod n := by
  have h := Int.tmod_lt_of_pos (-c) n0
  rw [Int.neg_tmod] at h; omega
 have m3 := Int.emod_nonneg c (show n ≠ 0 by omega)
 have m4 := Int.emod_lt_of_pos c n0
 rw [hn] at m1 m2 m3 m4
 clear hn n0
 by_cases a1 : lo ≤ c
 ·by_cases a2 : c ≤ hi
  ·clear m1 m2 m3 m4
   go_wp2_with fail
   go_ret
   exact ⟨c, rfl, a1, a2, rfl⟩
  go_wp2_with fail
  all_goals (go_ret; refine ⟨_, rfl, ?_, ?_, rfl⟩ <;> omega)
 go_wp2_with fail
 all_goals (go_ret; refine ⟨_, rfl, ?_, ?_, rfl⟩ <;> omega)
theorem bcut_in {p : Pt} {w : World} {B : Nat} (h : p.In w B) (k : Nat) : (Pt.mk p.ad p.cap (p.l.take k)).In w B :=
 ⟨by have := h.cap; simp only [List.length_take]; omega, h.nil, fun h0 => by
  simp only [List.length_take] at h0
  obtain ⟨a, o, e, hB, hc⟩ := h.read (by omega)
  refine ⟨a, o, e, hB, fun i hi => ?_⟩
  simp only [List.length_take] at hi
  rw [hc i (by omega)]
  simp only [List.getD, List.getElem?_take]
  rw [if_pos (by omega)]⟩
theorem cut_any (p : Pt) (k : Nat) (hk : k ≤ 1000) (hk0 : 0 < k) (hL : p.l.length ≤ 9223372036854775807) (w : World) (hp : p.In w w.heap.size) : Calls Try.prog 15 #[p.V, .int .i64 k] w fun e w' => e = .returned (Pt.mk p.ad p.cap (p.l.take k)).V ∧ w = w' := by
 obtain ⟨ad, cap, l⟩ := p
 unfold Pt.V
 simp only at *
 have hcap := hp.cap
 simp only at hcap
 obtain ⟨n, hn⟩ : ∃ n, n = l.length := ⟨_, rfl⟩
 rw [← hn] at hL hcap ⊢
 by_cases h : n ≤ k
 ·have e : (l.take k).length = n := by rw [List.length_take]; omega
  rw [e]
  clear hp hn e
  have h' : (n : Int) ≤ (k : Int) := by omega
  go_enter Try.func15, Try.ntmps15
  go_wp2
  go_ret
  exact ⟨rfl, rfl⟩
 have e : (l.take k).length = k := by rw [List.length_take]; omega
 rw [e]
 obtain ⟨a, ha⟩ : ∃ a, ad = some a := by
  cases had : ad with
  | none => have := hp.nil had; simp only at this; omega
  | some a => exact ⟨a, rfl⟩
 subst ha
 clear hp hn e
 have h' : (k : Int) < (n : Int) := by omega
 have k1 : (k : Int) ≤ (cap : Int) := by omega
 have k2 : (0 : Int) ≤ (k : Int) := by omega
 have k3 : k ≤ cap := by omega
 go_enter Try.func15, Try.ntmps15
 go_wp2
 go_ret
 exact ⟨rfl, rfl⟩
end Go.Proofs.Ytopamplmpfndlaa
namespace Go.Proofs.Ytopamplmpfndlaa
open Go.RowKit
section
variable {o : Oper} {a : Act} {w : World} {K : Act → World → Prop} {Q : Exit → Act → World → Prop}
theorem wp_eql_i64 (t' : TypeId) (x y : Operand) (ho : o.op = .binOp .eql 3 x y t') (m n : Int) (hx : a.eval x = .int .i64 m) (hy : a.eval y = .int .i64 n) (h : K (a.put o.dst (.bool (decide (m = n)))) w) : o.wp Try.prog a w K Q := by
 unfold Oper.wp
 obtain ⟨ev, hev⟩ : ∃ ev, ev = a.eval := ⟨_, rfl⟩
 rw [← hev] at hx hy ⊢
 clear hev
 unfold execOp
 simp only [ho]
 simp [hx, hy, go_sem]
 go_simp
 exact h
theorem wp_eql_s (t' : TypeId) (x y : Operand) (ho : o.op = .binOp .eql 9 x y t') (m n : ByteArray) (hx : a.eval x = .string m) (hy : a.eval y = .string n) (z : Bool) (hz : (m.toList == n.toList) = z) (h : K (a.put o.dst (.bool z)) w) : o.wp Try.prog a w K Q := by
 unfold Oper.wp
 obtain ⟨ev, hev⟩ : ∃ ev, ev = a.eval := ⟨_, rfl⟩
 rw [← hev] at hx hy ⊢
 clear hev
 unfold execOp
 simp only [ho]
 subst hz
 simp [hx, hy, go_sem]
 go_simp
 exact h
end
structure Vc where
 id : List UInt8
 gen : Int
 pin : List UInt8
 sec : List UInt8
 lim : Int
 used : Int
 own : List UInt8
 gone : Bool
 wiped : Bool
def Vt.ct (x : Vt) : Vc := ⟨x.id, x.gen, x.pin, x.sec.l, x.lim, x.used, x.own, x.gone, x.wiped⟩
theorem Vc.eq_iff (a b : Vc) : a = b ↔ (a.id = b.id ∧ a.gen = b.gen ∧ a.pin = b.pin ∧ a.sec = b.sec ∧ a.lim = b.lim ∧ a.used = b.used ∧ a.own = b.own ∧ a.gone = b.gone ∧ a.wiped = b.wiped) := by
 cases a; cases b; simp
instance : DecidableEq Vc := fun a b => decidable_of_iff _ (Vc.eq_iff a b).symm
structure VI (w : World) (x : Vt) : Prop where
 ok : x.Ok
 sec : x.sec.In w w.heap.size
theorem VI.ext {w w' : World} {x : Vt} (h : VI w x) (k : Ex w w') : VI w' x := ⟨h.ok, h.sec.ext k⟩
end Go.Proofs.Ytopamplmpfndlaa
namespace Go.Proofs.Ytopamplmpfndlaa
open Go.RowKit
def z4 : List UInt8 := [0, 0, 0, 0]
def z16 : List UInt8 := [0, 0, 0, 0, 0, 0, 0, 0, 0, 0, 0, 0, 0, 0, 0, 0]
def zeroVt : Vt := ⟨z4, 0, z16, nilB, 0, 0, z16, false, false⟩
def goneVt (id : List UInt8) (g : Int) (wi : Bool) : Vt := ⟨id, g, z16, nilB, 0, 0, z16, true, wi⟩
theorem goneVt_ok {id : List UInt8} {g : Int} {wi : Bool} (h : id.length = 4) (g0 : 0 ≤ g) (g1 : g < 18446744073709551616) : (goneVt id g wi).Ok := ⟨h, g0, g1, rfl, (by show (-9223372036854775808 : Int) ≤ 0; decide), (by show (0 : Int) ≤ 9223372036854775807; decide), (by show (-9223372036854775808 : Int) ≤ 0; decide), (by show (0 : Int) ≤ 9223372036854775807; decide), rfl⟩
def goneC (id : List UInt8) (g : Int) (wi : Bool) : Vc := (goneVt id g wi).ct
theorem built_z16 : Try.prog.built 36 [] = some (Lib.byteCells z16).toArray := by kernel_rfl
def Vc.right (c : Vc) : Bool := decide (1 ≤ c.gen ∧ c.gen ≤ 1099511627776) && (if c.gone = true then decide (c = goneC c.id c.gen c.wiped) else (!c.wiped && decide (1 ≤ c.lim ∧ c.lim ≤ 32) && decide (0 ≤ c.used) && decide (c.used < c.lim) && decide (c.sec.length ≤ 64)))
theorem Vt.ct_id (x : Vt) : x.ct.id = x.id := rfl
def Vc.left (c : Vc) : Int := if c.gone = true then 0 else if c.right = true then c.lim - c.used else 0
end Go.Proofs.Ytopamplmpfndlaa
namespace Go.Proofs.Ytopamplmpfndlaa
open Go.RowKit
structure Qc where
 op : Int
 id : List UInt8
 pin : List UInt8
 sec : List UInt8
 lim : Int
 own : List UInt8
 key : List UInt8
 client : Int
 num : Int
def Qt.ct (x : Qt) : Qc := ⟨x.op, x.id, x.pin, x.sec.l, x.lim, x.own, x.key, x.client, x.num⟩
structure QI (w : World) (x : Qt) : Prop where
 ok : x.Ok
 sec : x.sec.In w w.heap.size
theorem QI.ext {w w' : World} {x : Qt} (h : QI w x) (k : Ex w w') : QI w' x := ⟨h.ok, h.sec.ext k⟩
structure Rc where
 why : Int
 id : List UInt8
 gen : Int
 left : Int
 sec : List UInt8
 client : Int
 num : Int
def Rt.ct (x : Rt) : Rc := ⟨x.why, x.id, x.gen, x.left, x.sec.l, x.client, x.num⟩
structure RI (w : World) (x : Rt) : Prop where
 ok : x.Ok
 sec : x.sec.In w w.heap.size
theorem RI.ext {w w' : World} {x : Rt} (h : RI w x) (k : Ex w w') : RI w' x := ⟨h.ok, h.sec.ext k⟩
def Qc.right (c : Qc) : Bool := decide (0 ≤ c.client ∧ c.client < 4 ∧ c.num ≤ 1099511627776) && (if c.op = 1 ∨ c.op = 3 then decide (1 ≤ c.lim ∧ c.lim ≤ 32) && decide (c.sec.length ≤ 64) else if c.op = 2 then decide (c.lim = 0) && decide (c.own = z16) && decide (c.sec = []) else if c.op = 4 then decide (c.lim = 0) && decide (c.pin = z16) && decide (c.sec = []) else false)
theorem qright_any (q : Qt) (w : World) (ha : QI w q) : Calls Try.prog 103 #[q.V] w fun e w' => e = .returned (.bool q.ct.right) ∧ Ex w w' := by
 obtain ⟨z, hz⟩ : ∃ z, z = q.ct.right := ⟨_, rfl⟩
 rw [← hz]
 have HZ := Hi hz
 clear hz
 unfold Qc.right at HZ
 have CS := Hi (fun w1 => sender_any q.client q.num w1)
 have CL := Hi (fun w1 => limit_any q.lim w1)
 have CP := Hi (fun w1 => secret_any q.sec w1)
 obtain ⟨cs, hcs⟩ : ∃ cs, cs = q.C.toArray := ⟨_, rfl⟩
 have A0 : Hid (QB (w.alloc (.cells cs 47)) w.heap.size q) := Hi ⟨ha.ok, by rw [hcs]; exact Bk.new rfl _ _⟩
 have BW : Hid (Ex w (w.alloc (.cells cs 47))) := Hi (Ex.alloc w _)
 rw [show (Calls Try.prog 103 #[q.V] w) = (Calls Try.prog 103 #[.agg cs] w) by rw [hcs]; rfl]
 clear hcs ha
 obtain ⟨q0, q21, q22, q55, q56⟩ := A0.out.cells
 unfold Pt.V at q21
 by_cases hs : 0 ≤ q.client ∧ q.client < 4 ∧ q.num ≤ 1099511627776
 case neg =>
  rw [decide_eq_false hs] at CS
  go_enter Try.func103, Try.ntmps103
  go_wp2_with ((with_reducible refine so0 ?_ ?_); (focus rfl))
  refine (CS.out _).mono ?_
  rintro e w2 ⟨rfl, rfl⟩
  clear CS
  go_wp2_with fail
  go_ret
  have e : z = false := by rw [HZ.out]; rw [show decide (0 ≤ q.ct.client ∧ q.ct.client < 4 ∧ q.ct.num ≤ 1099511627776) = false from decide_eq_false hs]; rfl
  exact ⟨congrArg (fun b => Ending.returned (.bool b)) e.symm, BW.out⟩
 rw [decide_eq_true hs] at CS
 rw [show decide (0 ≤ q.ct.client ∧ q.ct.client < 4 ∧ q.ct.num ≤ 1099511627776) = true from decide_eq_true hs, Bool.true_and] at HZ
 have HS := Hi hs
 clear hs
 obtain ⟨p, hp⟩ : ∃ p, p = q.op := ⟨_, rfl⟩
 rw [← hp] at q0
 rw [show q.ct.op = p from hp.symm] at HZ
 clear hp
 by_cases hp : p = 1
 case pos =>
  subst hp
  rw [if_pos (by decide)] at HZ
  by_cases hl : 1 ≤ q.lim ∧ q.lim ≤ 32
  case neg =>
   rw [decide_eq_false hl] at CL
   go_enter Try.func103, Try.ntmps103
   go_wp2_with ((with_reducible refine so0 ?_ ?_); (focus rfl))
   refine (CS.out _).mono ?_
   rintro e w2 ⟨rfl, rfl⟩
   clear CS
   go_wp2_with ((with_reducible refine so0 ?_ ?_); (focus rfl))
   refine (CL.out _).mono ?_
   rintro e w2 ⟨rfl, rfl⟩
   clear CL
   go_wp2_with fail
   go_ret
   have e : z = false := by rw [HZ.out]; rw [show decide (1 ≤ q.ct.lim ∧ q.ct.lim ≤ 32) = false from decide_eq_false hl]; rfl
   exact ⟨congrArg (fun b => Ending.returned (.bool b)) e.symm, BW.out⟩
  rw [decide_eq_true hl] at CL
  rw [show decide (1 ≤ q.ct.lim ∧ q.ct.lim ≤ 32) = true from decide_eq_true hl, Bool.true_and] at HZ
  go_enter Try.func103, Try.ntmps103
  go_wp2_with ((with_reducible refine so0 ?_ ?_); (focus rfl))
  refine (CS.out _).mono ?_
  rintro e w2 ⟨rfl, rfl⟩
  clear CS
  go_wp2_with ((with_reducible refine so0 ?_ ?_); (focus rfl))
  refine (CL.out _).mono ?_
  rintro e w2 ⟨rfl, rfl⟩
  clear CL
  go_wp2_with ((with_reducible refine so0 ?_ ?_); (focus rfl))
  refine (CP.out _).mono ?_
  rintro e w2 ⟨rfl, rfl⟩
  clear CP
  go_wp2_with fail
  go_ret
  exact ⟨congrArg (fun b => Ending.returned (.bool b)) HZ.out.symm, BW.out⟩
 by_cases hp : p = 3
 case pos =>
  subst hp
  rw [if_pos (by decide)] at HZ
  by_cases hl : 1 ≤ q.lim ∧ q.lim ≤ 32
  case neg =>
   rw [decide_eq_false hl] at CL
   go_enter Try.func103, Try.ntmps103
   go_wp2_with ((with_reducible refine so0 ?_ ?_); (focus rfl))
   refine (CS.out _).mono ?_
   rintro e w2 ⟨rfl, rfl⟩
   clear CS
   go_wp2_with ((with_reducible refine so0 ?_ ?_); (focus rfl))
   refine (CL.out _).mono ?_
   rintro e w2 ⟨rfl, rfl⟩
   clear CL
   go_wp2_with fail
   go_ret
   have e : z = false := by rw [HZ.out]; rw [show decide (1 ≤ q.ct.lim ∧ q.ct.lim ≤ 32) = false from decide_eq_false hl]; rfl
   exact ⟨congrArg (fun b => Ending.returned (.bool b)) e.symm, BW.out⟩
  rw [decide_eq_true hl] at CL
  rw [show decide (1 ≤ q.ct.lim ∧ q.ct.lim ≤ 32) = true from decide_eq_true hl, Bool.true_and] at HZ
  go_enter Try.func103, Try.ntmps103
  go_wp2_with ((with_reducible refine so0 ?_ ?_); (focus rfl))
  refine (CS.out _).mono ?_
  rintro e w2 ⟨rfl, rfl⟩
  clear CS
  go_wp2_with ((with_reducible refine so0 ?_ ?_); (focus rfl))
  refine (CL.out _).mono ?_
  rintro e w2 ⟨rfl, rfl⟩
  clear CL
  go_wp2_with ((with_reducible refine so0 ?_ ?_); (focus rfl))
  refine (CP.out _).mono ?_
  rintro e w2 ⟨rfl, rfl⟩
  clear CP
  go_wp2_with fail
  go_ret
  exact ⟨congrArg (fun b => Ending.returned (.bool b)) HZ.out.symm, BW.out⟩
 by_cases hp : p = 2
 case pos =>
  subst hp
  rw [if_neg (by decide), if_pos rfl] at HZ
  have LN : Hid (decide (((q.sec.l.length : Nat) : Int) = 0) = decide (q.sec.l = [])) := Hi (by cases q.sec.l <;> simp <;> omega)
  by_cases h1 : q.lim = 0
  case neg =>
   have h1d : decide (q.lim = 0) = false := decide_eq_false h1
   have HH := Hi h1
   go_enter Try.func103, Try.ntmps103
   go_wp2_with ((with_reducible refine so2 [2000+3] ?_ ?_); (focus rfl))
   refine (CS.out _).mono ?_
   rintro e w2 ⟨rfl, rfl⟩
   clear CS
   go_wp2_with ((with_reducible refine so2 [2000+3] ?_ ?_); (focus rfl))
   refine at9 (by go_simp) fun K0 hK => wp_eql_i64 _ _ _ rfl 2 1 rfl rfl (hK _ _ ?_)
   clear hK
   rw [show decide ((2 : Int) = 1) = false from rfl]
   go_wp2_with ((with_reducible refine so2 [2000+3] ?_ ?_); (focus rfl))
   refine at9 (by go_simp) fun K0 hK => wp_eql_i64 _ _ _ rfl 2 3 rfl rfl (hK _ _ ?_)
   clear hK
   rw [show decide ((2 : Int) = 3) = false from rfl]
   go_wp2_with ((with_reducible refine so2 [2000+3] ?_ ?_); (focus rfl))
   refine at9 (by go_simp) fun K0 hK => wp_eql_i64 _ _ _ rfl 2 2 rfl rfl (hK _ _ ?_)
   clear hK
   rw [show decide ((2 : Int) = 2) = true from rfl]
   go_wp2_with ((with_reducible refine so2 [2000+3] ?_ ?_); (focus rfl))
   refine at9 (by go_simp) fun K0 hK => wp_eql_i64 _ _ _ rfl q.lim 0 rfl rfl (hK _ _ ?_)
   clear hK
   rw [h1d]
   clear h1d h1
   go_wp2_with fail
   go_ret
   have e : z = false := by rw [HZ.out]; rw [show decide (q.ct.lim = 0) = false from decide_eq_false HH.out]; rfl
   exact ⟨congrArg (fun b => Ending.returned (.bool b)) e.symm, BW.out⟩
  have h1d : decide (q.lim = 0) = true := decide_eq_true h1
  have H1D := Hi h1d
  rw [show decide (q.ct.lim = 0) = true from h1d, Bool.true_and] at HZ
  clear h1d h1
  go_enter Try.func103, Try.ntmps103
  go_wp2_with ((with_reducible refine so2 [2000+3] ?_ ?_); (focus rfl))
  refine (CS.out _).mono ?_
  rintro e w2 ⟨rfl, rfl⟩
  clear CS
  go_wp2_with ((with_reducible refine so2 [2000+3] ?_ ?_); (focus rfl))
  refine at9 (by go_simp) fun K0 hK => wp_eql_i64 _ _ _ rfl 2 1 rfl rfl (hK _ _ ?_)
  clear hK
  rw [show decide ((2 : Int) = 1) = false from rfl]
  go_wp2_with ((with_reducible refine so2 [2000+3] ?_ ?_); (focus rfl))
  refine at9 (by go_simp) fun K0 hK => wp_eql_i64 _ _ _ rfl 2 3 rfl rfl (hK _ _ ?_)
  clear hK
  rw [show decide ((2 : Int) = 3) = false from rfl]
  go_wp2_with ((with_reducible refine so2 [2000+3] ?_ ?_); (focus rfl))
  refine at9 (by go_simp) fun K0 hK => wp_eql_i64 _ _ _ rfl 2 2 rfl rfl (hK _ _ ?_)
  clear hK
  rw [show decide ((2 : Int) = 2) = true from rfl]
  go_wp2_with ((with_reducible refine so2 [2000+3] ?_ ?_); (focus rfl))
  refine at9 (by go_simp) fun K0 hK => wp_eql_i64 _ _ _ rfl q.lim 0 rfl rfl (hK _ _ ?_)
  clear hK
  rw [H1D.out]
  clear H1D
  go_wp2_with ((with_reducible refine so2 [2000+3] ?_ ?_); (focus rfl))
  refine at9 (by go_simp) fun K0 hK => ld_qown _ _ q rfl rfl A0.out (hK _ _ ?_)
  clear hK
  go_wp2_with ((with_reducible refine so2 [2000+3] ?_ ?_); (focus rfl))
  refine at9 (by go_simp) fun K0 hK => wp_build _ _ rfl _ built_z16 (hK _ _ ?_)
  clear hK
  go_wp2_with ((with_reducible refine so2 [2000+3] ?_ ?_); (focus rfl))
  refine at9 (by go_simp) fun K0 hK => wp_eql_dig _ _ _ rfl q.own z16 A0.out.1.ownN rfl rfl rfl (hK _ _ ?_)
  clear hK
  by_cases h2 : q.own = z16
  case neg =>
   rw [decide_eq_false h2]
   have HH := Hi h2
   clear h2
   go_wp2_with fail
   go_ret
   have e : z = false := by rw [HZ.out]; rw [show decide (q.ct.own = z16) = false from decide_eq_false HH.out]; rfl
   exact ⟨congrArg (fun b => Ending.returned (.bool b)) e.symm, BW.out⟩
  rw [decide_eq_true h2]
  rw [show decide (q.ct.own = z16) = true from decide_eq_true h2, Bool.true_and] at HZ
  clear h2
  go_wp2_with ((with_reducible refine so2 [2000+3] ?_ ?_); (focus rfl))
  refine at9 (by go_simp) fun K0 hK => wp_eql_i64 _ _ _ rfl q.sec.l.length 0 rfl rfl (hK _ _ ?_)
  clear hK
  rw [LN.out]
  go_wp2_with fail
  go_ret
  exact ⟨congrArg (fun b => Ending.returned (.bool b)) HZ.out.symm, BW.out⟩
 by_cases hp : p = 4
 case pos =>
  subst hp
  rw [if_neg (by decide), if_neg (by decide), if_pos rfl] at HZ
  have LN : Hid (decide (((q.sec.l.length : Nat) : Int) = 0) = decide (q.sec.l = [])) := Hi (by cases q.sec.l <;> simp <;> omega)
  by_cases h1 : q.lim = 0
  case neg =>
   have h1d : decide (q.lim = 0) = false := decide_eq_false h1
   have HH := Hi h1
   go_enter Try.func103, Try.ntmps103
   go_wp2_with ((with_reducible refine so2 [2000+3] ?_ ?_); (focus rfl))
   refine (CS.out _).mono ?_
   rintro e w2 ⟨rfl, rfl⟩
   clear CS
   go_wp2_with ((with_reducible refine so2 [2000+3] ?_ ?_); (focus rfl))
   refine at9 (by go_simp) fun K0 hK => wp_eql_i64 _ _ _ rfl 4 1 rfl rfl (hK _ _ ?_)
   clear hK
   rw [show decide ((4 : Int) = 1) = false from rfl]
   go_wp2_with ((with_reducible refine so2 [2000+3] ?_ ?_); (focus rfl))
   refine at9 (by go_simp) fun K0 hK => wp_eql_i64 _ _ _ rfl 4 3 rfl rfl (hK _ _ ?_)
   clear hK
   rw [show decide ((4 : Int) = 3) = false from rfl]
   go_wp2_with ((with_reducible refine so2 [2000+3] ?_ ?_); (focus rfl))
   refine at9 (by go_simp) fun K0 hK => wp_eql_i64 _ _ _ rfl 4 2 rfl rfl (hK _ _ ?_)
   clear hK
   rw [show decide ((4 : Int) = 2) = false from rfl]
   go_wp2_with ((with_reducible refine so2 [2000+3] ?_ ?_); (focus rfl))
   refine at9 (by go_simp) fun K0 hK => wp_eql_i64 _ _ _ rfl 4 4 rfl rfl (hK _ _ ?_)
   clear hK
   rw [show decide ((4 : Int) = 4) = true from rfl]
   go_wp2_with ((with_reducible refine so2 [2000+3] ?_ ?_); (focus rfl))
   refine at9 (by go_simp) fun K0 hK => wp_eql_i64 _ _ _ rfl q.lim 0 rfl rfl (hK _ _ ?_)
   clear hK
   rw [h1d]
   clear h1d h1
   go_wp2_with fail
   go_ret
   have e : z = false := by rw [HZ.out]; rw [show decide (q.ct.lim = 0) = false from decide_eq_false HH.out]; rfl
   exact ⟨congrArg (fun b => Ending.returned (.bool b)) e.symm, BW.out⟩
  have h1d : decide (q.lim = 0) = true := decide_eq_true h1
  have H1D := Hi h1d
  rw [show decide (q.ct.lim = 0) = true from h1d, Bool.true_and] at HZ
  clear h1d h1
  go_enter Try.func103, Try.ntmps103
  go_wp2_with ((with_reducible refine so2 [2000+3] ?_ ?_); (focus rfl))
  refine (CS.out _).mono ?_
  rintro e w2 ⟨rfl, rfl⟩
  clear CS
  go_wp2_with ((with_reducible refine so2 [2000+3] ?_ ?_); (focus rfl))
  refine at9 (by go_simp) fun K0 hK => wp_eql_i64 _ _ _ rfl 4 1 rfl rfl (hK _ _ ?_)
  clear hK
  rw [show decide ((4 : Int) = 1) = false from rfl]
  go_wp2_with ((with_reducible refine so2 [2000+3] ?_ ?_); (focus rfl))
  refine at9 (by go_simp) fun K0 hK => wp_eql_i64 _ _ _ rfl 4 3 rfl rfl (hK _ _ ?_)
  clear hK
  rw [show decide ((4 : Int) = 3) = false from rfl]
  go_wp2_with ((with_reducible refine so2 [2000+3] ?_ ?_); (focus rfl))
  refine at9 (by go_simp) fun K0 hK => wp_eql_i64 _ _ _ rfl 4 2 rfl rfl (hK _ _ ?_)
  clear hK
  rw [show decide ((4 : Int) = 2) = false from rfl]
  go_wp2_with ((with_reducible refine so2 [2000+3] ?_ ?_); (focus rfl))
  refine at9 (by go_simp) fun K0 hK => wp_eql_i64 _ _ _ rfl 4 4 rfl rfl (hK _ _ ?_)
  clear hK
  rw [show decide ((4 : Int) = 4) = true from rfl]
  go_wp2_with ((with_reducible refine so2 [2000+3] ?_ ?_); (focus rfl))
  refine at9 (by go_simp) fun K0 hK => wp_eql_i64 _ _ _ rfl q.lim 0 rfl rfl (hK _ _ ?_)
  clear hK
  rw [H1D.out]
  clear H1D
  go_wp2_with ((with_reducible refine so2 [2000+3] ?_ ?_); (focus rfl))
  refine at9 (by go_simp) fun K0 hK => ld_qpin _ _ q rfl rfl A0.out (hK _ _ ?_)
  clear hK
  go_wp2_with ((with_reducible refine so2 [2000+3] ?_ ?_); (focus rfl))
  refine at9 (by go_simp) fun K0 hK => wp_build _ _ rfl _ built_z16 (hK _ _ ?_)
  clear hK
  go_wp2_with ((with_reducible refine so2 [2000+3] ?_ ?_); (focus rfl))
  refine at9 (by go_simp) fun K0 hK => wp_eql_dig _ _ _ rfl q.pin z16 A0.out.1.pinN rfl rfl rfl (hK _ _ ?_)
  clear hK
  by_cases h2 : q.pin = z16
  case neg =>
   rw [decide_eq_false h2]
   have HH := Hi h2
   clear h2
   go_wp2_with fail
   go_ret
   have e : z = false := by rw [HZ.out]; rw [show decide (q.ct.pin = z16) = false from decide_eq_false HH.out]; rfl
   exact ⟨congrArg (fun b => Ending.returned (.bool b)) e.symm, BW.out⟩
  rw [decide_eq_true h2]
  rw [show decide (q.ct.pin = z16) = true from decide_eq_true h2, Bool.true_and] at HZ
  clear h2
  go_wp2_with ((with_reducible refine so2 [2000+3] ?_ ?_); (focus rfl))
  refine at9 (by go_simp) fun K0 hK => wp_eql_i64 _ _ _ rfl q.sec.l.length 0 rfl rfl (hK _ _ ?_)
  clear hK
  rw [LN.out]
  go_wp2_with fail
  go_ret
  exact ⟨congrArg (fun b => Ending.returned (.bool b)) HZ.out.symm, BW.out⟩
 have p1 : ¬ p = 1 := by assumption
 have p3 : ¬ p = 3 := by assumption
 have p2 : ¬ p = 2 := by assumption
 have p4 : ¬ p = 4 := by assumption
 rw [if_neg (by rintro (h | h) <;> contradiction), if_neg p2, if_neg p4] at HZ
 have d1 := decide_eq_false p1
 have d2 := decide_eq_false p2
 have d3 := decide_eq_false p3
 have d4 := decide_eq_false p4
 clear p1 p2 p3 p4
 go_enter Try.func103, Try.ntmps103
 go_wp2_with ((with_reducible refine so2 [2000+3] ?_ ?_); (focus rfl))
 refine (CS.out _).mono ?_
 rintro e w2 ⟨rfl, rfl⟩
 clear CS
 go_wp2_with ((with_reducible refine so2 [2000+3] ?_ ?_); (focus rfl))
 refine at9 (by go_simp) fun K0 hK => wp_eql_i64 _ _ _ rfl p 1 rfl rfl (hK _ _ ?_)
 clear hK
 rw [d1]
 go_wp2_with ((with_reducible refine so2 [2000+3] ?_ ?_); (focus rfl))
 refine at9 (by go_simp) fun K0 hK => wp_eql_i64 _ _ _ rfl p 3 rfl rfl (hK _ _ ?_)
 clear hK
 rw [d3]
 go_wp2_with ((with_reducible refine so2 [2000+3] ?_ ?_); (focus rfl))
 refine at9 (by go_simp) fun K0 hK => wp_eql_i64 _ _ _ rfl p 2 rfl rfl (hK _ _ ?_)
 clear hK
 rw [d2]
 go_wp2_with ((with_reducible refine so2 [2000+3] ?_ ?_); (focus rfl))
 refine at9 (by go_simp) fun K0 hK => wp_eql_i64 _ _ _ rfl p 4 rfl rfl (hK _ _ ?_)
 clear hK
 rw [d4]
 go_wp2_with fail
 go_ret
 exact ⟨congrArg (fun b => Ending.returned (.bool b)) HZ.out.symm, BW.out⟩
def OwnPost (a : Vt) (w : World) (e : Ending) (w' : World) : Prop := ∃ p : Pt, e = .returned (Vt.V { a with sec := p }) ∧ p.l = a.sec.l ∧ PN w' w.heap.size p ∧ Ex w w'
end Go.Proofs.Ytopamplmpfndlaa
