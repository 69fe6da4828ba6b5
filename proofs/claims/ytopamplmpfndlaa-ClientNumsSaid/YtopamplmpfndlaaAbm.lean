/- Vg, Vh, Vi, Wa -/
import Derived.Test.YtopamplmpfndlaaAab
set_option maxRecDepth 100000
set_option maxHeartbeats 16000000
namespace Go.Proofs.Ytopamplmpfndlaa
open Go.RowKit
def VN (w : World) (B : Nat) (v : Vt) : Prop := v.Ok ∧ PN w B v.sec
theorem VN.vi {w : World} {B : Nat} {v : Vt} (h : VN w B v) : VI w v := ⟨h.1, h.2.1⟩
theorem VN.ext {w w' : World} {B : Nat} {v : Vt} (h : VN w B v) (k : Ex w w') : VN w' B v := ⟨h.1, h.2.ext k⟩
theorem VN.only {w w' : World} {B g : Nat} {v : Vt} (h : VN w B v) (ho : Only g w w') (hg : g < B) : VN w' B v := ⟨h.1, h.2.only ho hg⟩
structure VS (w : World) (lo hi : Nat) (v : Vt) : Prop where
 ok : v.Ok
 sec : v.sec.In w hi
 frm : ∀ a, v.sec.ad = some a → lo ≤ a.block ∧ a.block < hi
 typ : ∀ a, v.sec.ad = some a → ∃ cs, Bk w a.block 5 cs
 le : hi ≤ w.heap.size
theorem VN.vs {w : World} {B : Nat} {v : Vt} (h : VN w B v) : VS w B w.heap.size v := ⟨h.1, h.2.1, fun a e => ⟨(h.2.2 a e).1, (h.2.2 a e).2.elim fun _ hc => hc.lt⟩, fun a e => (h.2.2 a e).2, Nat.le_refl _⟩
theorem VS.vn {w : World} {lo hi : Nat} {v : Vt} (h : VS w lo hi v) : VN w lo v := ⟨h.ok, h.sec.more h.le, fun a e => ⟨(h.frm a e).1, h.typ a e⟩⟩
theorem VS.ext {w w' : World} {lo hi : Nat} {v : Vt} (h : VS w lo hi v) (k : Ex w w') : VS w' lo hi v := ⟨h.ok, h.sec.keep (k.mono h.le), h.frm, fun a e => (h.typ a e).elim fun cs hc => ⟨cs, hc.ext k⟩, Nat.le_trans h.le k.size⟩
theorem VS.only {w w' : World} {lo hi g : Nat} {v : Vt} (h : VS w lo hi v) (ho : Only g w w') (hg : g < lo ∨ hi ≤ g) : VS w' lo hi v :=
 ⟨h.ok, h.sec.only ho (fun a e => by have := h.frm a e; omega), h.frm, fun a e => (h.typ a e).elim fun cs hc => ⟨cs, ho.bk hc (by have := h.frm a e; omega)⟩, by rw [ho.size]; exact h.le⟩
theorem VS.used {w : World} {lo hi : Nat} {v : Vt} (h : VS w lo hi v) (n : Int) (n0 : -9223372036854775808 ≤ n) (n1 : n ≤ 9223372036854775807) : VS w lo hi { v with used := n } := ⟨{ h.ok with used0 := n0, used1 := n1 }, h.sec, h.frm, h.typ, h.le⟩
theorem VS.gone {w : World} {lo hi : Nat} {id : List UInt8} {g : Int} {wi : Bool} (h : id.length = 4) (g0 : 0 ≤ g) (g1 : g < 18446744073709551616) (k : hi ≤ w.heap.size) : VS w lo hi (goneVt id g wi) := ⟨goneVt_ok h g0 g1, nilB_in _ _, (fun a e => by cases e), (fun a e => by cases e), k⟩
theorem Md.new {g h : Nat} {w w1 w2 : World} (k : Md g w w1) (ho : Only h w1 w2) (hh : w.heap.size ≤ h) (hg : g < w.heap.size) : Md g w w2 :=
 ⟨fun B hB a ha => ho.below B (by omega) a (k.below B hB a ha), fun i hi hl => (ho.other i (by omega)).trans (k.other i hi hl), by rw [ho.size]; exact k.size⟩
def DB (w : World) (g : Nat) (X : List UInt8) : Prop := X.length = 16 ∧ Bk w g 36 (Lib.byteCells X).toArray
theorem DB.ext {w w' : World} {g : Nat} {X : List UInt8} (h : DB w g X) (k : Ex w w') : DB w' g X := ⟨h.1, h.2.ext k⟩
theorem Only.db {g h : Nat} {w w' : World} {X : List UInt8} (k : Only g w w') (hb : DB w h X) (hne : h ≠ g) : DB w' h X := ⟨hb.1, k.bk hb.2 hne⟩
end Go.Proofs.Ytopamplmpfndlaa
namespace Go.Proofs.Ytopamplmpfndlaa
open Go.RowKit
theorem Ex.sz {w w' : World} (h : Ex w w') : w.heap.size ≤ w'.heap.size := Below.size h
inductive Ar where
 | any
 | is (x : Value)
 | pn (B : Nat) (l : List UInt8)
 | vx (v : Vt) (l : List UInt8) (B : Nat)
 | qx (q : Qt) (l : List UInt8) (B : Nat)
 | blk (base : Nat) (t : TypeId) (cs : Array Value)
 | emp (base : Nat)
 | intb (k : IntKind) (lo hi : Int)
 | dig (n : Nat)
 | sat (p : Value → Prop)
def Ar.holds : Ar → Value → World → Prop
 | .any, _, _ => True
 | .is x, v, _ => v = x
 | .pn B l, v, w => ∃ p : Pt, v = p.V ∧ p.l = l ∧ PN w B p
 | .vx u l B, v, w => ∃ p : Pt, v = Vt.V { u with sec := p } ∧ p.l = l ∧ PN w B p
 | .qx u l B, v, w => ∃ p : Pt, v = Qt.V { u with sec := p } ∧ p.l = l ∧ PN w B p
 | .blk base t cs, v, w => ∃ g, v = .pointer (some ⟨g, 0, none⟩) ∧ base ≤ g ∧ Bk w g t cs
 | .emp base, v, w => ∃ g, v = .slice (some ⟨g, 0, none⟩) 0 0 ∧ base ≤ g ∧ Bk w g 5 #[]
 | .intb k lo hi, v, _ => ∃ m : Int, v = .int k m ∧ lo ≤ m ∧ m ≤ hi
 | .dig n, v, _ => ∃ d : List UInt8, v = digV d ∧ d.length = n
 | .sat p, v, _ => p v
theorem Ar.stable {s : Ar} {v : Value} {w w' : World} (h : s.holds v w) (k : Ex w w') : s.holds v w' := by
 cases s with
 | any => exact h
 | is x => exact h
 | pn B l => obtain ⟨p, h1, h2, h3⟩ := h; exact ⟨p, h1, h2, h3.ext k⟩
 | vx u l B => obtain ⟨p, h1, h2, h3⟩ := h; exact ⟨p, h1, h2, h3.ext k⟩
 | qx u l B => obtain ⟨p, h1, h2, h3⟩ := h; exact ⟨p, h1, h2, h3.ext k⟩
 | blk base t cs => obtain ⟨g, h1, h2, h3⟩ := h; exact ⟨g, h1, h2, h3.ext k⟩
 | emp base => obtain ⟨g, h1, h2, h3⟩ := h; exact ⟨g, h1, h2, h3.ext k⟩
 | intb k lo hi => exact h
 | dig n => exact h
 | sat p => exact h
def Ar.far (g : Nat) : Ar → Prop
 | .pn B _ => g < B
 | .vx _ _ B => g < B
 | .qx _ _ B => g < B
 | .blk B _ _ => g < B
 | .emp B => g < B
 | _ => True
theorem Ar.only {s : Ar} {v : Value} {w w' : World} {g : Nat} (h : s.holds v w) (ho : Only g w w') (hf : s.far g) : s.holds v w' := by
 cases s with
 | any => exact h
 | is x => exact h
 | pn B l => obtain ⟨p, h1, h2, h3⟩ := h; exact ⟨p, h1, h2, h3.only ho hf⟩
 | vx u l B => obtain ⟨p, h1, h2, h3⟩ := h; exact ⟨p, h1, h2, h3.only ho hf⟩
 | qx u l B => obtain ⟨p, h1, h2, h3⟩ := h; exact ⟨p, h1, h2, h3.only ho hf⟩
 | blk base t cs => obtain ⟨g', h1, h2, h3⟩ := h; exact ⟨g', h1, h2, ho.bk h3 (by have : g < base := hf; omega)⟩
 | emp base => obtain ⟨g', h1, h2, h3⟩ := h; exact ⟨g', h1, h2, ho.bk h3 (by have : g < base := hf; omega)⟩
 | intb k lo hi => exact h
 | dig n => exact h
 | sat p => exact h
theorem own_less {w : World} {B B' : Nat} {v : Value} {l : List UInt8} (h : ownU w B v l) (k : B' ≤ B) : ownU w B' v l := by
 obtain ⟨h1, h2 | ⟨g, cap, cur, h3, h4, r⟩⟩ := h
 ·exact ⟨h1, .inl h2⟩
 exact ⟨h1, .inr ⟨g, cap, cur, h3, by omega, r⟩⟩
end Go.Proofs.Ytopamplmpfndlaa
namespace Go.Proofs.Ytopamplmpfndlaa
open Go.RowKit
def zeroRt : Rt := ⟨0, z4, 0, 0, nilB, 0, 0⟩
theorem zeroRt_ok : zeroRt.Ok := ⟨by decide, by decide, rfl, by decide, by decide, by decide, by decide, by decide, by decide, by decide, by decide⟩
structure DI (B g8 g9 : Nat) (w0 : World) (v : Vt) (r : Rt) (l3 l4 : Bool) (w : World) : Prop where
 z : ∃ x, VB w (B + 2) x ∧ (l3 = true → x = v)
 y : ∃ x, RB w (B + 3) x ∧ (l4 = true → x = r)
 vb : VB w g9 v
 rb : RB w g8 r
 vs : PN w B v.sec
 rs : PN w B r.sec
 ex : Ex w0 w
 sz : w0.heap.size = B
 lt8 : B + 4 ≤ g8
 lt9 : B + 4 ≤ g9
end Go.Proofs.Ytopamplmpfndlaa
namespace Go.Proofs.Ytopamplmpfndlaa
open Go.RowKit
theorem Qt.right_iff (q : Qt) : q.ct.right = true ↔ (0 ≤ q.client ∧ q.client < 4 ∧ q.num ≤ 1099511627776) ∧ (((q.op = 1 ∨ q.op = 3) ∧ 1 ≤ q.lim ∧ q.lim ≤ 32 ∧ q.sec.l.length ≤ 64) ∨ (q.op = 2 ∧ q.lim = 0 ∧ q.own = z16 ∧ q.sec.l.length = 0) ∨ (q.op = 4 ∧ q.lim = 0 ∧ q.pin = z16 ∧ q.sec.l.length = 0)) := by
 have hs : q.sec.l.length = 0 ↔ q.sec.l = [] := List.length_eq_zero_iff
 rw [hs]
 show (decide (0 ≤ q.client ∧ q.client < 4 ∧ q.num ≤ 1099511627776) && (if q.op = 1 ∨ q.op = 3 then decide (1 ≤ q.lim ∧ q.lim ≤ 32) && decide (q.sec.l.length ≤ 64) else if q.op = 2 then decide (q.lim = 0) && decide (q.own = z16) && decide (q.sec.l = []) else if q.op = 4 then decide (q.lim = 0) && decide (q.pin = z16) && decide (q.sec.l = []) else false)) = true ↔ _
 rw [Bool.and_eq_true, decide_eq_true_eq]
 refine and_congr_right fun _ => ?_
 by_cases h1 : q.op = 1 ∨ q.op = 3
 ·rw [if_pos h1]
  simp only [Bool.and_eq_true, decide_eq_true_eq]
  constructor
  ·rintro ⟨⟨a, b⟩, c⟩; exact Or.inl ⟨h1, a, b, c⟩
  rintro (⟨_, a, b, c⟩ | ⟨a, _⟩ | ⟨a, _⟩)
  ·exact ⟨⟨a, b⟩, c⟩
  ·omega
  omega
 rw [if_neg h1]
 by_cases h2 : q.op = 2
 ·rw [if_pos h2]
  simp only [Bool.and_eq_true, decide_eq_true_eq]
  constructor
  ·rintro ⟨⟨a, b⟩, c⟩; exact Or.inr (Or.inl ⟨h2, a, b, c⟩)
  rintro (⟨a, _⟩ | ⟨_, a, b, c⟩ | ⟨a, _⟩)
  ·exact absurd a h1
  ·exact ⟨⟨a, b⟩, c⟩
  omega
 rw [if_neg h2]
 by_cases h4 : q.op = 4
 ·rw [if_pos h4]
  simp only [Bool.and_eq_true, decide_eq_true_eq]
  constructor
  ·rintro ⟨⟨a, b⟩, c⟩; exact Or.inr (Or.inr ⟨h4, a, b, c⟩)
  rintro (⟨a, _⟩ | ⟨a, _⟩ | ⟨_, a, b, c⟩)
  ·exact absurd a h1
  ·omega
  exact ⟨⟨a, b⟩, c⟩
 rw [if_neg h4]
 constructor
 ·intro h; cases h
 rintro (⟨a, _⟩ | ⟨a, _⟩ | ⟨a, _⟩)
 ·exact absurd a h1
 ·exact absurd a h2
 exact absurd a h4
theorem ret_b {z b : Bool} {w w' : World} (h : z = b) (hx : Ex w w') : (Ending.returned (.bool b) = Ending.returned (.bool z)) ∧ Ex w w' := ⟨by rw [h], hx⟩
theorem rqright_any (q : Qt) (w : World) (ha : QI w q) : Calls Try.prog 29 #[q.V] w fun e w' => e = .returned (.bool q.ct.right) ∧ Ex w w' := by
 have hr := Qt.right_iff q
 obtain ⟨z, hz⟩ : ∃ z, z = q.ct.right := ⟨_, rfl⟩
 rw [← hz] at hr ⊢
 have HR := Hi hr
 clear hz hr
 have CN := Hi (fun w1 => rnum_any q.num w1)
 obtain ⟨cs, hcs⟩ : ∃ cs, cs = q.C.toArray := ⟨_, rfl⟩
 have A0 : Hid (QB (w.alloc (.cells cs 47)) w.heap.size q) := Hi ⟨ha.ok, by rw [hcs]; exact Bk.new rfl _ _⟩
 have BW : Hid (Ex w (w.alloc (.cells cs 47))) := Hi (Ex.alloc w _)
 rw [show (Calls Try.prog 29 #[q.V] w) = (Calls Try.prog 29 #[.agg cs] w) by rw [hcs]; rfl]
 clear hcs ha
 obtain ⟨q0, q21, q22, q55, q56⟩ := A0.out.cells
 unfold Pt.V at q21
 by_cases h1 : q.client < 0
 ·go_enter Try.func29, Try.ntmps29
  go_wp2_with fail
  go_ret
  have e : z = false := Bool.eq_false_iff.2 (fun h => by rcases (HR.out.1 h) with ⟨⟨a1, a2, a3⟩, ⟨b1, b2, b3, b4⟩ | ⟨b1, b2, b3, b4⟩ | ⟨b1, b2, b3, b4⟩⟩ <;> omega)
  exact ret_b e BW.out
 by_cases h2 : q.client ≥ 4
 ·go_enter Try.func29, Try.ntmps29
  go_wp2_with fail
  go_ret
  have e : z = false := Bool.eq_false_iff.2 (fun h => by rcases (HR.out.1 h) with ⟨⟨a1, a2, a3⟩, ⟨b1, b2, b3, b4⟩ | ⟨b1, b2, b3, b4⟩ | ⟨b1, b2, b3, b4⟩⟩ <;> omega)
  exact ret_b e BW.out
 by_cases h3 : q.num ≤ 1099511627776
 case neg =>
  rw [decide_eq_false h3] at CN
  go_enter Try.func29, Try.ntmps29
  go_wp2_with ((with_reducible refine so0 ?_ ?_); (focus rfl))
  refine (CN.out _).mono ?_
  rintro e w2 ⟨rfl, rfl⟩
  clear CN
  go_wp2_with fail
  go_ret
  have e : z = false := Bool.eq_false_iff.2 (fun h => by rcases (HR.out.1 h) with ⟨⟨a1, a2, a3⟩, ⟨b1, b2, b3, b4⟩ | ⟨b1, b2, b3, b4⟩ | ⟨b1, b2, b3, b4⟩⟩ <;> omega)
  exact ret_b e BW.out
 rw [decide_eq_true h3] at CN
 obtain ⟨p, hp⟩ : ∃ p, p = q.op := ⟨_, rfl⟩
 rw [← hp] at q0 HR
 clear hp
 by_cases hp : p = 1
 case pos =>
  subst hp
  by_cases hl : q.lim = 0
  ·have HL := Hi hl
   rw [hl] at q22
   by_cases hs : q.sec.l.length = 0
   ·rw [hs] at q21
    clear hl hs
    go_enter Try.func29, Try.ntmps29
    go_wp2_with ((with_reducible refine so0 ?_ ?_); (focus rfl))
    refine (CN.out _).mono ?_
    rintro e w2 ⟨rfl, rfl⟩
    clear CN
    go_wp2_with ((with_reducible refine so0 ?_ ?_); (focus rfl))
    go_wp2_with fail
    go_ret
    have e : z = false := Bool.eq_false_iff.2 (fun h => by have := HL.out; rcases (HR.out.1 h) with ⟨⟨a1, a2, a3⟩, ⟨b1, b2, b3, b4⟩ | ⟨b1, b2, b3, b4⟩ | ⟨b1, b2, b3, b4⟩⟩ <;> omega)
    exact ret_b e BW.out
   have hs2 : ¬ (q.sec.l.length : Int) = 0 := by omega
   clear hl
   go_enter Try.func29, Try.ntmps29
   go_wp2_with ((with_reducible refine so0 ?_ ?_); (focus rfl))
   refine (CN.out _).mono ?_
   rintro e w2 ⟨rfl, rfl⟩
   clear CN
   go_wp2_with ((with_reducible refine so0 ?_ ?_); (focus rfl))
   go_wp2_with fail
   go_ret
   have e : z = false := Bool.eq_false_iff.2 (fun h => by have := HL.out; rcases (HR.out.1 h) with ⟨⟨a1, a2, a3⟩, ⟨b1, b2, b3, b4⟩ | ⟨b1, b2, b3, b4⟩ | ⟨b1, b2, b3, b4⟩⟩ <;> omega)
   exact ret_b e BW.out
  by_cases m1 : 1 ≤ q.lim
  case neg =>
   go_enter Try.func29, Try.ntmps29
   go_wp2_with ((with_reducible refine so0 ?_ ?_); (focus rfl))
   refine (CN.out _).mono ?_
   rintro e w2 ⟨rfl, rfl⟩
   clear CN
   go_wp2_with ((with_reducible refine so0 ?_ ?_); (focus rfl))
   go_wp2_with fail
   go_ret
   have e : z = false := Bool.eq_false_iff.2 (fun h => by rcases (HR.out.1 h) with ⟨⟨a1, a2, a3⟩, ⟨b1, b2, b3, b4⟩ | ⟨b1, b2, b3, b4⟩ | ⟨b1, b2, b3, b4⟩⟩ <;> omega)
   exact ret_b e BW.out
  by_cases m2 : q.lim ≤ 32
  case neg =>
   go_enter Try.func29, Try.ntmps29
   go_wp2_with ((with_reducible refine so0 ?_ ?_); (focus rfl))
   refine (CN.out _).mono ?_
   rintro e w2 ⟨rfl, rfl⟩
   clear CN
   go_wp2_with ((with_reducible refine so0 ?_ ?_); (focus rfl))
   go_wp2_with fail
   go_ret
   have e : z = false := Bool.eq_false_iff.2 (fun h => by rcases (HR.out.1 h) with ⟨⟨a1, a2, a3⟩, ⟨b1, b2, b3, b4⟩ | ⟨b1, b2, b3, b4⟩ | ⟨b1, b2, b3, b4⟩⟩ <;> omega)
   exact ret_b e BW.out
  go_enter Try.func29, Try.ntmps29
  go_wp2_with ((with_reducible refine so0 ?_ ?_); (focus rfl))
  refine (CN.out _).mono ?_
  rintro e w2 ⟨rfl, rfl⟩
  clear CN
  go_wp2_with ((with_reducible refine so0 ?_ ?_); (focus rfl))
  go_wp2_with fail
  go_ret
  have e : z = decide ((q.sec.l.length : Int) ≤ 64) := Bool.eq_iff_iff.2 ⟨fun h => decide_eq_true (by rcases (HR.out.1 h) with ⟨⟨a1, a2, a3⟩, ⟨b1, b2, b3, b4⟩ | ⟨b1, b2, b3, b4⟩ | ⟨b1, b2, b3, b4⟩⟩ <;> omega), fun h => HR.out.2 (by have h5 := of_decide_eq_true h; exact ⟨⟨by omega, by omega, by omega⟩, Or.inl ⟨by first | trivial | omega, by omega, by omega, by omega⟩⟩)⟩
  exact ret_b e BW.out
 by_cases hp : p = 3
 case pos =>
  subst hp
  by_cases hl : q.lim = 0
  ·have HL := Hi hl
   rw [hl] at q22
   by_cases hs : q.sec.l.length = 0
   ·rw [hs] at q21
    clear hl hs
    go_enter Try.func29, Try.ntmps29
    go_wp2_with ((with_reducible refine so0 ?_ ?_); (focus rfl))
    refine (CN.out _).mono ?_
    rintro e w2 ⟨rfl, rfl⟩
    clear CN
    go_wp2_with ((with_reducible refine so0 ?_ ?_); (focus rfl))
    go_wp2_with fail
    go_ret
    have e : z = false := Bool.eq_false_iff.2 (fun h => by have := HL.out; rcases (HR.out.1 h) with ⟨⟨a1, a2, a3⟩, ⟨b1, b2, b3, b4⟩ | ⟨b1, b2, b3, b4⟩ | ⟨b1, b2, b3, b4⟩⟩ <;> omega)
    exact ret_b e BW.out
   have hs2 : ¬ (q.sec.l.length : Int) = 0 := by omega
   clear hl
   go_enter Try.func29, Try.ntmps29
   go_wp2_with ((with_reducible refine so0 ?_ ?_); (focus rfl))
   refine (CN.out _).mono ?_
   rintro e w2 ⟨rfl, rfl⟩
   clear CN
   go_wp2_with ((with_reducible refine so0 ?_ ?_); (focus rfl))
   go_wp2_with fail
   go_ret
   have e : z = false := Bool.eq_false_iff.2 (fun h => by have := HL.out; rcases (HR.out.1 h) with ⟨⟨a1, a2, a3⟩, ⟨b1, b2, b3, b4⟩ | ⟨b1, b2, b3, b4⟩ | ⟨b1, b2, b3, b4⟩⟩ <;> omega)
   exact ret_b e BW.out
  by_cases m1 : 1 ≤ q.lim
  case neg =>
   go_enter Try.func29, Try.ntmps29
   go_wp2_with ((with_reducible refine so0 ?_ ?_); (focus rfl))
   refine (CN.out _).mono ?_
   rintro e w2 ⟨rfl, rfl⟩
   clear CN
   go_wp2_with ((with_reducible refine so0 ?_ ?_); (focus rfl))
   go_wp2_with fail
   go_ret
   have e : z = false := Bool.eq_false_iff.2 (fun h => by rcases (HR.out.1 h) with ⟨⟨a1, a2, a3⟩, ⟨b1, b2, b3, b4⟩ | ⟨b1, b2, b3, b4⟩ | ⟨b1, b2, b3, b4⟩⟩ <;> omega)
   exact ret_b e BW.out
  by_cases m2 : q.lim ≤ 32
  case neg =>
   go_enter Try.func29, Try.ntmps29
   go_wp2_with ((with_reducible refine so0 ?_ ?_); (focus rfl))
   refine (CN.out _).mono ?_
   rintro e w2 ⟨rfl, rfl⟩
   clear CN
   go_wp2_with ((with_reducible refine so0 ?_ ?_); (focus rfl))
   go_wp2_with fail
   go_ret
   have e : z = false := Bool.eq_false_iff.2 (fun h => by rcases (HR.out.1 h) with ⟨⟨a1, a2, a3⟩, ⟨b1, b2, b3, b4⟩ | ⟨b1, b2, b3, b4⟩ | ⟨b1, b2, b3, b4⟩⟩ <;> omega)
   exact ret_b e BW.out
  go_enter Try.func29, Try.ntmps29
  go_wp2_with ((with_reducible refine so0 ?_ ?_); (focus rfl))
  refine (CN.out _).mono ?_
  rintro e w2 ⟨rfl, rfl⟩
  clear CN
  go_wp2_with ((with_reducible refine so0 ?_ ?_); (focus rfl))
  go_wp2_with fail
  go_ret
  have e : z = decide ((q.sec.l.length : Int) ≤ 64) := Bool.eq_iff_iff.2 ⟨fun h => decide_eq_true (by rcases (HR.out.1 h) with ⟨⟨a1, a2, a3⟩, ⟨b1, b2, b3, b4⟩ | ⟨b1, b2, b3, b4⟩ | ⟨b1, b2, b3, b4⟩⟩ <;> omega), fun h => HR.out.2 (by have h5 := of_decide_eq_true h; exact ⟨⟨by omega, by omega, by omega⟩, Or.inl ⟨by first | trivial | omega, by omega, by omega, by omega⟩⟩)⟩
  exact ret_b e BW.out
 by_cases hp : p = 2
 case pos =>
  subst hp
  by_cases hl : q.lim = 0
  case neg =>
   go_enter Try.func29, Try.ntmps29
   go_wp2_with ((with_reducible refine so0 ?_ ?_); (focus rfl))
   refine (CN.out _).mono ?_
   rintro e w2 ⟨rfl, rfl⟩
   clear CN
   go_wp2_with ((with_reducible refine so0 ?_ ?_); (focus rfl))
   go_wp2_with fail
   go_ret
   have e : z = false := Bool.eq_false_iff.2 (fun h => by rcases (HR.out.1 h) with ⟨⟨a1, a2, a3⟩, ⟨b1, b2, b3, b4⟩ | ⟨b1, b2, b3, b4⟩ | ⟨b1, b2, b3, b4⟩⟩ <;> omega)
   exact ret_b e BW.out
  have HL := Hi hl
  rw [hl] at q22
  clear hl
  by_cases hs : q.sec.l.length = 0
  case neg =>
   have hs2 : ¬ (q.sec.l.length : Int) = 0 := by omega
   go_enter Try.func29, Try.ntmps29
   go_wp2_with ((with_reducible refine so0 ?_ ?_); (focus rfl))
   refine (CN.out _).mono ?_
   rintro e w2 ⟨rfl, rfl⟩
   clear CN
   go_wp2_with ((with_reducible refine so0 ?_ ?_); (focus rfl))
   repeat ((with_reducible refine at8 ?_ ?_); (focus (go_simp; done)); go_wp2_with ((with_reducible refine so0 ?_ ?_); (focus rfl)))
   go_wp2_with fail
   go_ret
   have e : z = false := Bool.eq_false_iff.2 (fun h => by rcases (HR.out.1 h) with ⟨⟨a1, a2, a3⟩, ⟨b1, b2, b3, b4⟩ | ⟨b1, b2, b3, b4⟩ | ⟨b1, b2, b3, b4⟩⟩ <;> omega)
   exact ret_b e BW.out
  have HS := Hi hs
  rw [hs] at q21
  clear hs
  go_enter Try.func29, Try.ntmps29
  go_wp2_with ((with_reducible refine so0 ?_ ?_); (focus rfl))
  refine (CN.out _).mono ?_
  rintro e w2 ⟨rfl, rfl⟩
  clear CN
  go_wp2_with ((with_reducible refine so0 ?_ ?_); (focus rfl))
  refine at9 (by go_simp) fun K0 hK => ld_qown _ _ q rfl rfl A0.out (hK _ _ ?_)
  clear hK
  go_wp2_with ((with_reducible refine so0 ?_ ?_); (focus rfl))
  refine at9 (by go_simp) fun K0 hK => wp_build _ _ rfl _ built_z16 (hK _ _ ?_)
  clear hK
  go_wp2_with ((with_reducible refine so0 ?_ ?_); (focus rfl))
  refine at9 (by go_simp) fun K0 hK => wp_eql_dig _ _ _ rfl q.own z16 A0.out.1.ownN rfl rfl rfl (hK _ _ ?_)
  clear hK
  go_wp2_with fail
  go_ret
  have e : z = decide (q.own = z16) := Bool.eq_iff_iff.2 ⟨fun h => by rcases (HR.out.1 h) with ⟨⟨a1, a2, a3⟩, ⟨b1, b2, b3, b4⟩ | ⟨b1, b2, b3, b4⟩ | ⟨b1, b2, b3, b4⟩⟩ <;> first | omega | exact decide_eq_true b3, fun h => HR.out.2 (by have h5 := of_decide_eq_true h; have := HL.out; have := HS.out; refine ⟨by omega, ?_⟩; exact Or.inr (Or.inl ⟨by first | trivial | omega, by omega, h5, by omega⟩))⟩
  exact ret_b e BW.out
 by_cases hp : p = 4
 case pos =>
  subst hp
  by_cases hl : q.lim = 0
  case neg =>
   go_enter Try.func29, Try.ntmps29
   go_wp2_with ((with_reducible refine so0 ?_ ?_); (focus rfl))
   refine (CN.out _).mono ?_
   rintro e w2 ⟨rfl, rfl⟩
   clear CN
   go_wp2_with ((with_reducible refine so0 ?_ ?_); (focus rfl))
   go_wp2_with fail
   go_ret
   have e : z = false := Bool.eq_false_iff.2 (fun h => by rcases (HR.out.1 h) with ⟨⟨a1, a2, a3⟩, ⟨b1, b2, b3, b4⟩ | ⟨b1, b2, b3, b4⟩ | ⟨b1, b2, b3, b4⟩⟩ <;> omega)
   exact ret_b e BW.out
  have HL := Hi hl
  rw [hl] at q22
  clear hl
  by_cases hs : q.sec.l.length = 0
  case neg =>
   have hs2 : ¬ (q.sec.l.length : Int) = 0 := by omega
   go_enter Try.func29, Try.ntmps29
   go_wp2_with ((with_reducible refine so0 ?_ ?_); (focus rfl))
   refine (CN.out _).mono ?_
   rintro e w2 ⟨rfl, rfl⟩
   clear CN
   go_wp2_with ((with_reducible refine so0 ?_ ?_); (focus rfl))
   repeat ((with_reducible refine at8 ?_ ?_); (focus (go_simp; done)); go_wp2_with ((with_reducible refine so0 ?_ ?_); (focus rfl)))
   go_wp2_with fail
   go_ret
   have e : z = false := Bool.eq_false_iff.2 (fun h => by rcases (HR.out.1 h) with ⟨⟨a1, a2, a3⟩, ⟨b1, b2, b3, b4⟩ | ⟨b1, b2, b3, b4⟩ | ⟨b1, b2, b3, b4⟩⟩ <;> omega)
   exact ret_b e BW.out
  have HS := Hi hs
  rw [hs] at q21
  clear hs
  go_enter Try.func29, Try.ntmps29
  go_wp2_with ((with_reducible refine so0 ?_ ?_); (focus rfl))
  refine (CN.out _).mono ?_
  rintro e w2 ⟨rfl, rfl⟩
  clear CN
  go_wp2_with ((with_reducible refine so0 ?_ ?_); (focus rfl))
  refine at9 (by go_simp) fun K0 hK => ld_qpin _ _ q rfl rfl A0.out (hK _ _ ?_)
  clear hK
  go_wp2_with ((with_reducible refine so0 ?_ ?_); (focus rfl))
  refine at9 (by go_simp) fun K0 hK => wp_build _ _ rfl _ built_z16 (hK _ _ ?_)
  clear hK
  go_wp2_with ((with_reducible refine so0 ?_ ?_); (focus rfl))
  refine at9 (by go_simp) fun K0 hK => wp_eql_dig _ _ _ rfl q.pin z16 A0.out.1.pinN rfl rfl rfl (hK _ _ ?_)
  clear hK
  go_wp2_with fail
  go_ret
  have e : z = decide (q.pin = z16) := Bool.eq_iff_iff.2 ⟨fun h => by rcases (HR.out.1 h) with ⟨⟨a1, a2, a3⟩, ⟨b1, b2, b3, b4⟩ | ⟨b1, b2, b3, b4⟩ | ⟨b1, b2, b3, b4⟩⟩ <;> first | omega | exact decide_eq_true b3, fun h => HR.out.2 (by have h5 := of_decide_eq_true h; have := HL.out; have := HS.out; refine ⟨by omega, ?_⟩; exact Or.inr (Or.inr ⟨by first | trivial | omega, by omega, h5, by omega⟩))⟩
  exact ret_b e BW.out
 by_cases hl : q.lim = 0
 ·rw [hl] at q22
  clear hl
  by_cases hs : q.sec.l.length = 0
  ·rw [hs] at q21
   clear hs
   go_enter Try.func29, Try.ntmps29
   go_wp2_with ((with_reducible refine so0 ?_ ?_); (focus rfl))
   refine (CN.out _).mono ?_
   rintro e w2 ⟨rfl, rfl⟩
   clear CN
   go_wp2_with ((with_reducible refine so0 ?_ ?_); (focus rfl))
   go_wp2_with fail
   go_ret
   have e : z = false := Bool.eq_false_iff.2 (fun h => by rcases (HR.out.1 h) with ⟨⟨a1, a2, a3⟩, ⟨b1, b2, b3, b4⟩ | ⟨b1, b2, b3, b4⟩ | ⟨b1, b2, b3, b4⟩⟩ <;> omega)
   exact ret_b e BW.out
  have hs2 : ¬ (q.sec.l.length : Int) = 0 := by omega
  go_enter Try.func29, Try.ntmps29
  go_wp2_with ((with_reducible refine so0 ?_ ?_); (focus rfl))
  refine (CN.out _).mono ?_
  rintro e w2 ⟨rfl, rfl⟩
  clear CN
  go_wp2_with ((with_reducible refine so0 ?_ ?_); (focus rfl))
  go_wp2_with fail
  go_ret
  have e : z = false := Bool.eq_false_iff.2 (fun h => by rcases (HR.out.1 h) with ⟨⟨a1, a2, a3⟩, ⟨b1, b2, b3, b4⟩ | ⟨b1, b2, b3, b4⟩ | ⟨b1, b2, b3, b4⟩⟩ <;> omega)
  exact ret_b e BW.out
 go_enter Try.func29, Try.ntmps29
 go_wp2_with ((with_reducible refine so0 ?_ ?_); (focus rfl))
 refine (CN.out _).mono ?_
 rintro e w2 ⟨rfl, rfl⟩
 clear CN
 go_wp2_with ((with_reducible refine so0 ?_ ?_); (focus rfl))
 go_wp2_with fail
 go_ret
 have e : z = false := Bool.eq_false_iff.2 (fun h => by rcases (HR.out.1 h) with ⟨⟨a1, a2, a3⟩, ⟨b1, b2, b3, b4⟩ | ⟨b1, b2, b3, b4⟩ | ⟨b1, b2, b3, b4⟩⟩ <;> omega)
 exact ret_b e BW.out
end Go.Proofs.Ytopamplmpfndlaa
