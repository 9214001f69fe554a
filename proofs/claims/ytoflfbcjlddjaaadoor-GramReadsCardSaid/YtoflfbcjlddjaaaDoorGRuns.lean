/-
  stavelaw2.GramRuns: the call returns true, and nothing that was there turns.
-/
import Derived.Test.YtoflfbcjlddjaaaDoorGLit
namespace Go.Proofs.YtoflfbcjlddjaaaDoor
open Go.RowKit

def rF : List Fl := [⟨1, 2, 0, 999, 0⟩, ⟨2, 0, 1, 3, 0⟩, ⟨3, 0, 0, 2, 1⟩]
def rX : List Vl := [⟨258, ⟨#[]⟩, []⟩, ⟨0, ⟨#[97, 98]⟩, []⟩, ⟨0, ⟨#[]⟩, [⟨#[99]⟩]⟩]
def rB : List UInt8 := [2, 1, 2, 0, 97, 98, 1, 1, 0, 99]
theorem rF_right : firstAt wrongF rF 0 < 0 := by decide +kernel
theorem rX_fit : firstAt misfit (rF.zip rX) 0 < 0 := by decide +kernel
theorem rB_put : putB rF rX = rB := by decide +kernel
theorem rB_least : leastM rF = 6 := by decide +kernel
theorem rB_short : getM rF (rB.take 9) = .no 3 6 := by rfl
theorem rB_form : getM rF (232 :: 3 :: rB.drop 2) = .no 2 0 := by rfl

set_option maxHeartbeats 2000000 in
theorem runs (w : World) (hg : Typ w) : Calls Tryd.prog 16 #[] w (Bit true w) := by
  have hp := hg.pos
  have Hg := Lib.hid hg; clear hg
  go_enter Tryd.func16, Tryd.ntmps16
  go_wp2_with fail
  obtain ⟨W, hW⟩ : ∃ W, W = (((w.alloc (.cells #[.int .i64 1, .int .i64 2, .int .i64 0, .int .i64 999, .int .i64 0, .int .i64 2, .int .i64 0, .int .i64 1, .int .i64 3, .int .i64 0, .int .i64 3, .int .i64 0, .int .i64 0, .int .i64 2, .int .i64 1] 46)).alloc (.cells #[.string ⟨#[99]⟩] 9)).alloc
    (.cells #[.int .i64 258, .string ⟨#[]⟩, .slice none 0 0, .int .i64 0, .string ⟨#[97, 98]⟩, .slice none 0 0, .int .i64 0, .string ⟨#[]⟩, .slice (some ⟨w.heap.size + 1, 0, none⟩) 1 1] 51)) := ⟨_, rfl⟩
  have hbw : Below w.heap.size w W := by rw [hW]; exact balloc (balloc (one_below _ _) _) _
  have hsz : W.heap.size = w.heap.size + 3 := by rw [hW]; simp
  have hF : SlF W.heap.size W (.slice (some ⟨w.heap.size, 0, none⟩) 3 3) rF := by
    have h := ((holds_new w #[.int .i64 1, .int .i64 2, .int .i64 0, .int .i64 999, .int .i64 0, .int .i64 2, .int .i64 0, .int .i64 1, .int .i64 3, .int .i64 0, .int .i64 3, .int .i64 0, .int .i64 0, .int .i64 2, .int .i64 1] 46 (rF.flatMap cellsF) rfl).below (by simp) (one_below _ (.cells #[.string ⟨#[99]⟩] 9))).below (by simp; omega)
      (one_below _ (.cells #[.int .i64 258, .string ⟨#[]⟩, .slice none 0 0, .int .i64 0, .string ⟨#[97, 98]⟩, .slice none 0 0, .int .i64 0, .string ⟨#[]⟩, .slice (some ⟨w.heap.size + 1, 0, none⟩) 1 1] 51))
    rw [← hW] at h
    exact slf_lit h (by omega) (by decide) (by decide)
  have hX : SlV W.heap.size W (.slice (some ⟨w.heap.size + 1 + 1, 0, none⟩) 3 3) rX := by
    have h1 := (holds_new (w.alloc (.cells #[.int .i64 1, .int .i64 2, .int .i64 0, .int .i64 999, .int .i64 0, .int .i64 2, .int .i64 0, .int .i64 1, .int .i64 3, .int .i64 0, .int .i64 3, .int .i64 0, .int .i64 0, .int .i64 2, .int .i64 1] 46)) #[.string ⟨#[99]⟩] 9 ([(⟨#[99]⟩ : ByteArray)].map Value.string) rfl).below (by simp)
      (one_below _ (.cells #[.int .i64 258, .string ⟨#[]⟩, .slice none 0 0, .int .i64 0, .string ⟨#[97, 98]⟩, .slice none 0 0, .int .i64 0, .string ⟨#[]⟩, .slice (some ⟨w.heap.size + 1, 0, none⟩) 1 1] 51))
    have h2 := holds_new ((w.alloc (.cells #[.int .i64 1, .int .i64 2, .int .i64 0, .int .i64 999, .int .i64 0, .int .i64 2, .int .i64 0, .int .i64 1, .int .i64 3, .int .i64 0, .int .i64 3, .int .i64 0, .int .i64 0, .int .i64 2, .int .i64 1] 46)).alloc (.cells #[.string ⟨#[99]⟩] 9)) #[.int .i64 258, .string ⟨#[]⟩, .slice none 0 0, .int .i64 0, .string ⟨#[97, 98]⟩, .slice none 0 0, .int .i64 0, .string ⟨#[]⟩, .slice (some ⟨w.heap.size + 1, 0, none⟩) 1 1] 51
      ([((⟨258, ⟨#[]⟩, []⟩ : Vl), Value.slice none 0 0), (⟨0, ⟨#[97, 98]⟩, []⟩, .slice none 0 0), (⟨0, ⟨#[]⟩, [⟨#[99]⟩]⟩, .slice (some ⟨w.heap.size + 1, 0, none⟩) 1 1)].flatMap cellsP) rfl
    rw [← hW] at h1 h2
    simp only [World.size_alloc] at h1 h2
    refine slv_lit h2 (by omega) (Nat.succ_pos _) fun p hp => ?_
    simp only [List.mem_cons, List.not_mem_nil, or_false] at hp
    rcases hp with rfl | rfl | rfl
    · exact Or.inl ⟨rfl, _, _, rfl⟩
    · exact Or.inl ⟨rfl, _, _, rfl⟩
    · exact slt_lit h1 (by omega) (Nat.succ_pos _)
  rw [← hW]
  have HW := Lib.hid (And.intro hbw (And.intro hF hX)); clear hW hbw hF hX
  refine (put_ok _ _ rF rX W HW.out.2.1 HW.out.2.2 (by decide) (by decide) rF_right rfl (ok_all (by decide +kernel)) rX_fit (by rw [rB_put]; decide)).mono ?_
  rw [rB_put]
  rintro e w1 ⟨v1, rfl, hown1, hb1⟩
  obtain ⟨g, cap, rfl, hg1, hg2, hcap, hcm, hho⟩ := own_some hown1 (by decide)
  have HbW1 := Lib.hid hb1
  have Hho := Lib.hid hho
  have hcap' : 10 ≤ cap := hcap
  obtain ⟨i0, hi0, hz0, hz1, hz2⟩ := info_parts Tryd.info5
  clear hown1 hb1 hho hcap
  rw [show rB.length = 10 from rfl]
  go_wp2_with fail
  refine (same_bytes (w1.heap.size + 1) _ _ rB rB _ (slb_lit (Hho.out.below hg2 (one_below _ _)) (by omega) hcap') (slb_lit (holds_new w1 _ _ (bytesV rB) rfl) (by omega) (by decide)) (by simp) (by decide)).mono ?_
  rw [show decide (rB = rB) = true from decide_eq_true rfl]
  rintro e w2 ⟨rfl, hb2⟩
  have Hb12 := Lib.hid (bthen (one_below w1 _) hb2)
  have HbW2 := Lib.hid (bthen HbW1.out Hb12.out)
  have Hh2 := Lib.hid (Hho.out.below hg2 Hb12.out)
  have hg2' : g < w2.heap.size := Nat.lt_of_lt_of_le hg2 Hb12.out.size
  clear hb2
  go_wp2_with fail
  refine (get_any _ _ rF (rB.take 9) w2 ((HW.out.2.1.below HbW2.out).wider HbW2.out.size) (slb_lit (l := rB.take 9) (fun i v hv => Hh2.out i v (by rw [show rB = rB.take 9 ++ rB.drop 9 from rfl, bytesV_append]; exact (List.getElem?_append_left (List.getElem?_eq_some_iff.1 hv).1).trans hv)) hg2' (by show 9 ≤ cap; omega)) (by decide) (by decide) (by decide) rF_right).mono ?_
  rw [rB_short]
  rintro e w3 ⟨rfl, hb3⟩
  have HbW3 := Lib.hid (bthen HbW2.out hb3)
  have Hh3 := Lib.hid (Hh2.out.below hg2' hb3)
  have hg3' : g < w3.heap.size := Nat.lt_of_lt_of_le hg2' hb3.size
  clear hb3
  have Hown := Lib.hid (own_new w3 w3.heap.size #[.int .u8 232, .int .u8 3] 5 1 2 (Nat.le_refl _) rfl (by decide))
  have Hsrc := Lib.hid (src_bytes (w := w3.alloc (.cells #[.int .u8 232, .int .u8 3] 5)) (b := g) (off := 2) (m := 8) (c := cap - 2) (l := rB.drop 2) (fun i v hv => (Hh3.out.below hg3' (one_below _ _)) (2 + i) v ((bytesV_drop rB 2 i).symm.trans hv)) rfl)
  go_wp2_with (at_builtin; refine wpList_append_src _ rfl _ _ 24 24 rfl w3.heap.size 5 i0 (.int .u8 0) 1 1 Tryd.underlying24 hi0 hz0 hz1 hz2 rfl _ _ _ rfl Hown.out _ 8 _ rfl Hsrc.out (by unfold maxLen; omega) (by omega) (by simp) ?_; intro v4 w4 hown4 hg4 hnil; have Hg4 := Lib.hid ((((Grew.refl w3 none).alloc _).fresh hg4 (fun k hk => (Hown.out.lt k hk).1)).below0); obtain ⟨g4, cap4, rfl, _, hg5, hcap4, _, hho4⟩ := own_some hown4 (by decide); have Hho4 := Lib.hid hho4; clear hown4 hg4 hnil hho4)
  have HbW4 := Lib.hid (bthen HbW3.out Hg4.out)
  refine (get_any _ _ rF (232 :: 3 :: rB.drop 2) w4 ((HW.out.2.1.below HbW4.out).wider HbW4.out.size) (slb_lit (l := 232 :: 3 :: rB.drop 2) Hho4.out hg5 hcap4) (by decide) (by decide) (by decide) rF_right).mono ?_
  rw [rB_form]
  rintro e w5 ⟨rfl, hb5⟩
  have HbW5 := Lib.hid (bthen HbW4.out hb5)
  have hb0 := bthen HW.out.1 HbW5.out
  have Ht5 := Lib.hid (Hg.out.below hb0)
  have Hb0 := Lib.hid hb0
  clear hb5 hb0
  unfold wrapV errV
  go_wp2_with fail
  refine (where_err [(gramGet, 6)] 3 w5 _ rfl Ht5.out).mono ?_
  rintro e w6 ⟨rfl, hb⟩
  have Hb6 := Lib.hid hb; clear hb
  have Ht6 := Lib.hid (Ht5.out.below Hb6.out)
  simp only [show lastS [(gramGet, 6)] = gramGet from rfl, show lastN [(gramGet, 6)] = 6 from rfl, List.isEmpty_cons, Bool.not_false]
  go_wp2_with fail
  refine (where_err [(gramGet, 0)] 2 w6 _ rfl Ht6.out).mono ?_
  rintro e w7 ⟨rfl, hb⟩
  have Hb7 := Lib.hid (bthen Hb6.out hb); clear hb
  have Ht7 := Lib.hid (Ht5.out.below Hb7.out)
  simp only [show lastS [(gramGet, 0)] = gramGet from rfl, show lastN [(gramGet, 0)] = 0 from rfl, List.isEmpty_cons, Bool.not_false]
  go_wp2_with fail
  refine (kind_err [(gramGet, 6)] 3 w7 _ rfl Ht7.out).mono ?_
  rintro e w8 ⟨rfl, hb⟩
  have Hb8 := Lib.hid (bthen Hb7.out hb); clear hb
  have Ht8 := Lib.hid (Ht5.out.below Hb8.out)
  go_wp2_with fail
  refine (kind_err [(gramGet, 0)] 2 w8 _ rfl Ht8.out).mono ?_
  rintro e w9 ⟨rfl, hb⟩
  have Hb9 := Lib.hid (bthen Hb8.out hb); clear hb
  have HbW9 := Lib.hid (bthen HbW5.out Hb9.out)
  go_wp2_with fail
  refine (least_any _ rF w9 ((HW.out.2.1.below HbW9.out).wider HbW9.out.size) (by decide) (by decide)).mono ?_
  rw [rB_least]
  rintro e w10 ⟨rfl, hb⟩
  have HbW10 := Lib.hid (bthen HbW9.out hb); clear hb
  go_wp2_with fail
  go_ret
  exact ⟨rfl, bthen HW.out.1 HbW10.out⟩
end Go.Proofs.YtoflfbcjlddjaaaDoor
