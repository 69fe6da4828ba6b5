/- plain lemmas for the law PinScripts -/
import Derived.Test.YtiomokjidipjkaaB5
namespace Go.Proofs.Ytiomokjidipjkaa
open Go.RowKit
/-- digits as the first script writes them -/
def plainL (ds : List Nat) : List Nat := ds.map (48 + ·)
theorem nl_congr : ∀ (A : List Nat) (X Y : List Nat), (∀ acc, nl acc X = nl acc Y) → ∀ acc, nl acc (A ++ X) = nl acc (A ++ Y)
  | [], X, Y, h, acc => h acc
  | r :: A, X, Y, h, acc => by
    rw [List.cons_append, List.cons_append, nl_cons, nl_cons]
    have ih := nl_congr A X Y h
    split
    · exact ih acc
    · split
      · rfl
      · exact ih _
/-- what the signs lo make is what the digits ds make, whatever stands around -/
def Same (lo ds : List Nat) : Prop := ∀ acc rest, nl acc (lo ++ rest) = nl acc (plainL ds ++ rest)
theorem same_nil : Same [] [] := fun _ _ => rfl
theorem dgb_of (r : Nat) (d : Nat) (hd : d ≤ 9) (h : dg (r : Int) = d) : dgb (r : Int) = dgb ((48 + d : Nat) : Int) ∧ dg ((48 + d : Nat) : Int) = d := by
  have h2 : dg ((48 + d : Nat) : Int) = d := by have := dg_cases ((48 + d : Nat) : Int); omega
  refine ⟨?_, h2⟩
  unfold dgb; rw [h, h2]
theorem same_step (lo ds : List Nat) (sep : List Nat) (r d : Nat) (h : Same lo ds) (hs : sep = [] ∨ sep = [32] ∨ sep = [45] ∨ sep = [160]) (hd : d ≤ 9) (hr : dg (r : Int) = d) : Same (lo ++ (sep ++ [r])) (ds ++ [d]) := by
  intro acc rest
  have e1 : lo ++ (sep ++ [r]) ++ rest = lo ++ (sep ++ r :: rest) := by simp
  have e2 : plainL (ds ++ [d]) ++ rest = plainL ds ++ ((48 + d) :: rest) := by simp [plainL]
  rw [e1, e2, h acc (sep ++ r :: rest)]
  refine nl_congr _ _ _ (fun a => ?_) acc
  obtain ⟨hb, hd2⟩ := dgb_of r d hd hr
  have core : nl a (r :: rest) = nl a ((48 + d) :: rest) := by
    rw [nl_cons, nl_cons, hb, hr, hd2]
  have skip : ∀ c : Nat, dg (c : Int) = -2 → nl a (c :: r :: rest) = nl a (r :: rest) := fun c hc => by rw [nl_cons, if_pos hc]
  rcases hs with rfl | rfl | rfl | rfl
  · exact core
  · exact (skip 32 (by decide)).trans core
  · exact (skip 45 (by decide)).trans core
  · exact (skip 160 (by decide)).trans core
theorem same_nrm (lo ds : List Nat) (h : Same lo ds) : nrm lo = nrm (plainL ds) := by
  have := h [] []
  simp only [List.append_nil] at this
  unfold nrm; rw [this]
/-- the digits as bytes -/
def digB (ds : List Nat) : List UInt8 := ds.map fun d => (48 + d).toUInt8
theorem digB_nat (ds : List Nat) (h : ∀ d ∈ ds, d ≤ 9) : (digB ds).map UInt8.toNat = plainL ds := by
  unfold digB plainL
  rw [List.map_map]
  apply List.map_congr_left
  intro d hd
  have := h d hd
  simp [Nat.toUInt8, UInt8.toNat_ofNat']; omega
theorem digB_dig (ds : List Nat) (h : ∀ d ∈ ds, d ≤ 9) : Dig (digB ds) := by
  intro x hx
  obtain ⟨d, hd, rfl⟩ := List.mem_map.1 hx
  have := h d hd
  have e : (48 + d).toUInt8.toNat = 48 + d := by simp [Nat.toUInt8, UInt8.toNat_ofNat']; omega
  omega
theorem nl_long : ∀ (a acc : List UInt8), Dig a → acc.length ≤ 12 → 12 < acc.length + a.length → nl acc (a.map UInt8.toNat) = none
  | [], acc, _, h1, h2 => by simp at h2; omega
  | x :: a, acc, hd, h1, h2 => by
    have hx := hd x (by simp)
    have hdg : dg (x.toNat : Int) = x.toNat - 48 := by have := dg_cases (x.toNat : Int); omega
    rw [List.map_cons, nl_cons, if_neg (by omega)]
    by_cases h12 : acc.length = 12
    · rw [if_pos (.inr h12)]
    · rw [if_neg (by omega)]
      exact nl_long a _ (fun y hy => hd y (by simp [hy])) (by simp; omega) (by simp at h2 ⊢; omega)
theorem nrm_plain (ds : List Nat) (h : ∀ d ∈ ds, d ≤ 9) : nrm (plainL ds) = if 4 ≤ ds.length ∧ ds.length ≤ 12 then some (digB ds) else none := by
  rw [← digB_nat ds h]
  have hl : (digB ds).length = ds.length := by simp [digB]
  unfold nrm
  by_cases h12 : ds.length ≤ 12
  · rw [nl_id (digB ds) [] (digB_dig ds h) (by simp; omega)]
    by_cases h4 : 4 ≤ ds.length
    · simp [hl, h4, h12, Nat.not_lt.2 h4]
    · simp [hl, h4]
  · rw [nl_long (digB ds) [] (digB_dig ds h) (by simp) (by simp; omega)]
    simp [h12]
theorem plain_bytes (ds : List Nat) (h : ∀ d ∈ ds, d ≤ 9) : encL (plainL ds) = digB ds := by
  rw [← digB_nat ds h]
  exact enc_ascii _ (fun x hx => by have := digB_dig ds h x hx; omega)
theorem plain_ok (ds : List Nat) (h : ∀ d ∈ ds, d ≤ 9) : ∀ r ∈ plainL ds, okRune r := by
  intro r hr
  obtain ⟨d, hd, rfl⟩ := List.mem_map.1 hr
  have := h d hd
  unfold okRune; omega
theorem encode_str (r : Nat) (h : r ≤ 1114111) : Utf8.encode (r : Int) = ⟨(encL [r]).toArray⟩ := by
  rw [encode_ok r h]; simp [encL]
theorem str_append (a b : List UInt8) : (⟨a.toArray⟩ : ByteArray) ++ ⟨b.toArray⟩ = ⟨(a ++ b).toArray⟩ := ByteArray.mk_append_mk a b
end Go.Proofs.Ytiomokjidipjkaa
