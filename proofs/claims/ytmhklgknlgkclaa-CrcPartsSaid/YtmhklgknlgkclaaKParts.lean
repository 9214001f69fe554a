/-
  stavelaw5.CrcParts: the walk.
-/
import Derived.Test.YtmhklgknlgkclaaKTurnL
import Derived.Test.YtmhklgknlgkclaaCRows
namespace Go.Proofs.Ytmhklgknlgkclaa
open Go.RowKit
open Crc hiding tab
def piece (l : List UInt8) : List UInt8 := l.take (min l.length 40)
theorem piece_length (l : List UInt8) : (piece l).length = min l.length 40 := by unfold piece; rw [List.length_take]; omega
/-- The pieces of the first k rows. -/
def allL (ls : List (List UInt8)) : Nat → List UInt8
  | 0 => []
  | k + 1 => allL ls k ++ piece (ls.getD k [])
theorem allL_length (ls : List (List UInt8)) : ∀ k, (allL ls k).length ≤ 40 * k
  | 0 => by simp [allL]
  | k + 1 => by have := allL_length ls k; have := piece_length (ls.getD k []); show (allL ls k ++ _).length ≤ _; rw [List.length_append]; omega
def RelP (w1 : World) (ls : List (List UInt8)) (v c i : Value) (wr : World) : Prop :=
  ∃ k : Nat, k ≤ 10 ∧ k ≤ ls.length ∧ i = .int .i64 k ∧ c = .int .u32 (sum (allL ls k)) ∧ wr.ownsRow w1.heap.size 5 1 v (allL ls k).length (bytesV (allL ls k)) ∧ Below w1.heap.size w1 wr
theorem grew_own' {B n : Nat} {w2 wl w3 : World} {v : Value} {xs : List Value} {r : Option Nat} (hl : Below w2.heap.size w2 wl) (hg : Grew wl v.ownBlock w3 r) (ho : w2.ownsRow B 5 1 v n xs) (hb : B ≤ w2.heap.size) : Below B w2 w3 :=
  (hl.mono hb).trans (hg.below (Nat.le_trans hb hl.size) fun _ hk => (own_block ho hk).1)
theorem row_src {w : World} {B n : Nat} {v : Value} {l : List UInt8} (h : w.ownsRow B 5 1 v n (bytesV l)) (hn : n = l.length) : SlB w.heap.size w v l := by subst hn; exact slb_own h
theorem row_len {w : World} {B n m : Nat} {v : Value} {l : List UInt8} (h : w.ownsRow B 5 1 v n (bytesV l)) (hn : n = m) : w.ownsRow B 5 1 v m (bytesV l) := hn ▸ h
set_option maxHeartbeats 1000000 in
set_option maxRecDepth 100000 in
theorem parts_any (v : Value) (ls : List (List UInt8)) (w : World) (h : SlBs w.heap.size w v ls) (hl : ls.length ≤ maxLen) (hls : ∀ l ∈ ls, l.length ≤ maxLen) :
    Calls Try.prog 7 #[v] w (Bit true w) := by
  obtain ⟨a, cap, rfl, hcap⟩ := h.len
  have H := Lib.hid h
  have HLS := Lib.hid hls
  unfold maxLen at hl
  clear h hls
  go_enter Try.func7, Try.ntmps7
  go_wp2_with fail
  go_at_call 9
  refine (make_any _).mono ?_
  rintro e w1 ⟨rfl, hT, hz, hb⟩
  have HT := Lib.hid hT
  have HB := Lib.hid hb
  have hz1 : w.heap.size < w1.heap.size := by omega
  have HS := Lib.hid (H.out.below hb)
  clear hT hz hb
  go_wp2_with fail
  go_loopw [4, 5, 6] (fun v c i wr => RelP w1 ls v c i wr) (fun _ _ i _ => ls.length - (intOf i).toNat)
  case atStart => exact ⟨0, by omega, by omega, rfl, by rw [show allL ls 0 = [] from rfl, sum_nil]; rfl, World.ownsRow_nil _ _ _ _, Below.refl _ _⟩
  case round =>
    obtain ⟨k, hk10, hk, rfl, rfl, hown, hb⟩ := hrel
    have HO := Lib.hid hown
    have HBr := Lib.hid hb
    have hz2 := hb.size
    obtain ⟨ga, ca, rfl, _⟩ := own_slice hown
    have hs := sum_lt (allL ls k)
    have HTX := Lib.hid (show TableIn wr w.heap.size from fun i hi => by rw [hb.cell (show w.heap.size < _ by omega)]; exact HT.out i hi)
    have HBX := Lib.hid (HB.out.trans (hb.mono (by omega)))
    have hal := allL_length ls k
    have HAL := Lib.hid (show allL ls (k + 1) = allL ls k ++ piece (ls.getD k []) from rfl)
    have HON := Lib.hid (on_sum (allL ls k) (piece (ls.getD k [])))
    rw [← HAL.out] at HON
    by_cases hlt : k < ls.length
    · by_cases hlt10 : k < 10
      · obtain ⟨b, o, cap', u, e1, _, hbl, hu1, hu2⟩ := (HS.out.below (hb.mono (by omega))).row hlt
        injection e1 with e1 _ e1'
        subst e1 e1'
        obtain ⟨a2, c2, rfl, hc2⟩ := hu2.len
        have hll := HLS.out _ (show ls.getD k [] ∈ ls by simp [List.getD, hlt])
        unfold maxLen at hll
        have HP := Lib.hid (slb_take (m := min (ls.getD k []).length 40) hu2 (by omega))
        rw [show (ls.getD k []).take (min (ls.getD k []).length 40) = piece (ls.getD k []) from rfl] at HP
        have hpl := piece_length (ls.getD k [])
        have hm : (if (40 : Int) < (ls.getD k []).length then 40 else ((ls.getD k []).length : Int)) = ((min (ls.getD k []).length 40 : Nat) : Int) := by split <;> omega
        have hp1 : min (ls.getD k []).length 40 ≤ 40 := by omega
        have hp2 : min (ls.getD k []).length 40 ≤ c2 := by omega
        generalize piece (ls.getD k []) = pc at *
        generalize (ls.getD k []).length = n2 at *
        generalize min n2 40 = mm at *
        subst hpl
        have i1 : (0 : Int) ≤ pc.length := by omega
        have i2 : (pc.length : Int) ≤ c2 := by omega
        have i3 : (k : Int) < ls.length := by omega
        clear hown hb hu2
        go_wp2_with fail
        go_quiet (fail)
        go_wp2_with fail
        refine (on_any w.heap.size w.heap.size _ pc (sum (allL ls k)) _ (HTX.out.drewN _) (HP.out.mono fun _ _ _ => rfl) hs (by omega)).mono ?_
        rw [HON.out]
        rintro e w2 ⟨rfl, rfl⟩
        go_wp2_with (at_builtin; refine wpList_append_bytes _ rfl (.tmp 36) (.tmp 37) rfl w1.heap.size _ _ _ rfl (own_below HO.out (below_drewN (Below.refl _ _) _)) w.heap.size _ pc rfl (HP.out.mono fun _ _ _ => rfl) (by omega) (by simpa using hz2) ?_; intro v3 w3 hown hg; rw [← bytesV_append, ← HAL.out] at hown; have hsl := own_slice hown; have Hown3 := Lib.hid hown; have Hb3 := Lib.hid (grew_own' (Below.refl _ _) hg (own_below HO.out (below_drewN (Below.refl _ _) nq)) (by simpa using hz2)); have hz3 := Hb3.out.size; clear hown hg)
        obtain ⟨g3, c3, rfl, _⟩ := hsl
        have HT3 := Lib.hid (show TableIn w3 w.heap.size from fun i hi => by rw [Hb3.out.cell (show w.heap.size < _ by omega)]; exact HTX.out i hi)
        have HR := Lib.hid (Below.trans (below_drewN HBr.out nq) Hb3.out)
        have hal2 := allL_length ls (k + 1)
        refine (sum_any w3.heap.size w.heap.size _ (allL ls (k + 1)) _ HT3.out (row_src Hown3.out (by rw [HAL.out, List.length_append])) (by omega)).mono ?_
        rintro e w2 ⟨rfl, rfl⟩
        have HO4 := Lib.hid (row_len Hown3.out (show _ = (allL ls (k + 1)).length by rw [HAL.out, List.length_append]))
        generalize hg : sum (allL ls (k + 1)) = s2 at *
        have HG := Lib.hid hg
        clear hg
        go_wp2_with fail
        go_roundw
        case rel => exact ⟨k + 1, by omega, by omega, by go_num, by rw [HG.out], HO4.out, HR.out⟩
        case measure => simp [intOf]; omega
      · clear hown hb
        go_wp2_with fail
        refine (on_any w.heap.size w.heap.size _ [] (sum (allL ls k)) _ HTX.out (Or.inl ⟨rfl, _, _, rfl⟩) hs (by simp)).mono ?_
        rw [on_nil]
        rintro e w2 ⟨rfl, rfl⟩
        generalize sum (allL ls k) = s at *
        go_wp2_with fail
        refine (runs_any _).mono ?_
        rintro e w7 ⟨rfl, hb7⟩
        go_wp2_with fail
        go_ret
        exact bit rfl (bthen HBX.out hb7)
    · clear hown hb
      by_cases hlt10 : k < 10
      · go_wp2_with fail
        refine (on_any w.heap.size w.heap.size _ [] (sum (allL ls k)) _ HTX.out (Or.inl ⟨rfl, _, _, rfl⟩) hs (by simp)).mono ?_
        rw [on_nil]
        rintro e w2 ⟨rfl, rfl⟩
        generalize sum (allL ls k) = s at *
        go_wp2_with fail
        refine (runs_any _).mono ?_
        rintro e w7 ⟨rfl, hb7⟩
        go_wp2_with fail
        go_ret
        exact bit rfl (bthen HBX.out hb7)
      · go_wp2_with fail
        refine (on_any w.heap.size w.heap.size _ [] (sum (allL ls k)) _ HTX.out (Or.inl ⟨rfl, _, _, rfl⟩) hs (by simp)).mono ?_
        rw [on_nil]
        rintro e w2 ⟨rfl, rfl⟩
        generalize sum (allL ls k) = s at *
        go_wp2_with fail
        refine (runs_any _).mono ?_
        rintro e w7 ⟨rfl, hb7⟩
        go_wp2_with fail
        go_ret
        exact bit rfl (bthen HBX.out hb7)
end Go.Proofs.Ytmhklgknlgkclaa
