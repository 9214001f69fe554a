/-
  No other blocks have the same fragments; small slices.
-/
import Derived.Test.YtoklknjnegpaaaaDoorCMade
namespace Go.Proofs.YtoklknjnegpaaaaDoor
open Go.RowKit Gf Cd
theorem decoded_eq {k s : Nat} {qs : List Pt} {bs B0 : List (List UInt8)} (hk : k ≤ 8) (hq : (qs.map (·.1)).Nodup) (hl : qs.length = k) (hat : ∀ p ∈ qs, 0 ≤ p.1 ∧ p.1 < 8) (hb : BlocksOf k s qs bs) (h1 : B0.length = k) (h2 : ∀ i, i < k → (B0.getD i []).length = s)
    (hp : ∀ p ∈ qs, p.2 = combo (cf k p.1.toNat) B0 s k) : bs = B0 := by
  obtain ⟨b1, b2, b3⟩ := hb
  have key : ∀ x, x < s → ∀ j, j < k → mat bs j x = mat B0 j x := fun x hx j hj => by
    refine xor_eq_of_zero (rows_ns (k := k) (ats := qs.map fun p => p.1.toNat) (v := fun j => mat bs j x ^^^ mat B0 j x) (by omega) ?_ (by rw [List.length_map, hl]; exact Nat.le_refl _) (fun a ha => ?_) (fun j => xor_lt (mat_bm _ _ _) (mat_bm _ _ _)) (fun a ha => ?_) j hj)
    · unfold List.Nodup at *
      rw [List.pairwise_map] at hq ⊢
      refine List.Pairwise.imp_of_mem (fun {a b} ha hb hne e => ?_) hq
      have h1 := hat a ha
      have h2 := hat b hb
      exact hne (by omega)
    · obtain ⟨p, hp, rfl⟩ := List.mem_map.1 ha
      have := hat p hp
      omega
    · obtain ⟨p, hpm, rfl⟩ := List.mem_map.1 ha
      have e1 := b3 p hpm x hx
      have e2 : (p.2.getD x 0).toNat = dot (cf k p.1.toNat) (fun i => mat B0 i x) k := by
        rw [hp p hpm]; exact combo_nat hx k h2
      rw [dot_v_xor (fun j => mat_bm bs j x) (fun j => mat_bm B0 j x) k, e1, e2, Nat.xor_self]
  refine rows_ext (by rw [b1, h1]) fun i hi => ?_
  rw [b1] at hi
  refine ext_getD (by rw [b2 i hi, h2 i hi]) fun x hx => ?_
  exact key x (by rw [h2 i hi] at hx; exact hx) i hi
theorem slb_one {B : Nat} {w : World} {b x : Nat} (h : w.cell? ⟨b, 0, none⟩ = some (.int .u8 x)) (hb : b < B) (hx : x < 256) : SlB B w (.slice (some ⟨b, 0, none⟩) 1 1) [UInt8.ofNat x] :=
  Or.inr ⟨b, 0, 1, rfl, hb, fun y hy => by
    have : y = 0 := by simpa using hy
    subst this
    rw [Nat.zero_add, h]
    simp [List.getD]; omega, by simp, by simp⟩
theorem slp_two {B : Nat} {w : World} {b : Nat} {a1 a2 : Int} {u1 u2 : Value} {l1 l2 : List UInt8} (h0 : w.cell? ⟨b, 0, none⟩ = some (.int .i64 a1)) (h1 : w.cell? ⟨b, 1, none⟩ = some u1) (h2 : w.cell? ⟨b, 2, none⟩ = some (.int .i64 a2)) (h3 : w.cell? ⟨b, 3, none⟩ = some u2) (hb : b < B) (s1 : SlB B w u1 l1) (s2 : SlB B w u2 l2) :
    SlP B w (.slice (some ⟨b, 0, none⟩) 2 2) [(a1, l1), (a2, l2)] :=
  Or.inr ⟨b, 0, 2, rfl, hb, fun i hi => by
    match i, hi with
    | 0, _ => exact ⟨h0, u1, h1, s1⟩
    | 1, _ => exact ⟨h2, u2, h3, s2⟩
    | i + 2, hi => simp at hi; omega, by simp, by simp⟩
end Go.Proofs.YtoklknjnegpaaaaDoor
