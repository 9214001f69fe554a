/-
  (*disk.Disk).Write.
-/
import Derived.Test.YtfhkccldgbgelaaDoorDHas
import Derived.Test.YtfhkccldgbgelaaDoorDStill
namespace Go.Proofs.YtfhkccldgbgelaaDoor
open Go.RowKit Go.Deep Dk Go.Maps
set_option maxHeartbeats 1000000 in
set_option maxRecDepth 100000 in
theorem write_dead {d S M : Nat} {s : St} (w : World) (h : DiskIn w d S M s) (hd : s.dead = true) (i : Int) (v : Value) : Calls Tryd.prog 11 #[.pointer (some ⟨d, 0, none⟩), .int .i64 i, v] w (Err1 opWrite 5 i w) := by
  have c2 := h.c2
  rw [hd] at c2
  clear h hd
  go_enter Tryd.func11, Tryd.ntmps11
  go_wp2_with (go_at_call 37; refine (wrap_some _ _ _ _ _).mono ?_; rintro e w' ⟨rfl, rfl⟩)
  exact bodyPost_ret (v := wrapV opWrite i (errV 5)) (by simp [results, Tryd.results11, go_sem, wrapV, errV, opWrite]) rfl ⟨rfl, rfl⟩
set_option maxHeartbeats 1000000 in
set_option maxRecDepth 100000 in
theorem write_no {d S M : Nat} {s : St} (w : World) (h : DiskIn w d S M s) (hd : s.dead = false) (i : Int) (a : Option Addr) (len cap : Nat) (hno : ¬ (0 ≤ i ∧ i < s.n ∧ len = 128)) :
    Calls Tryd.prog 11 #[.pointer (some ⟨d, 0, none⟩), .int .i64 i, .slice a len cap] w (Err1 opWrite 1 i w) := by
  have c2 := h.c2
  rw [hd] at c2
  have HH := Lib.hid (has_any w h i)
  by_cases hi : 0 ≤ i ∧ i < s.n
  · rw [decide_eq_true hi] at HH
    have hl : ¬ (len : Int) = 128 := by omega
    have hl2 : ((len : Int) == 128) = false := by simpa using hl
    clear h hd hno hi
    go_enter Tryd.func11, Tryd.ntmps11
    go_wp2_with (first
      | (go_at_call 38; refine HH.out.mono ?_; rintro e w' ⟨rfl, rfl⟩)
      | (go_at_call 37; refine (wrap_some _ _ _ _ _).mono ?_; rintro e w' ⟨rfl, rfl⟩))
    exact bodyPost_ret (v := wrapV opWrite i (errV 1)) (by simp [results, Tryd.results11, go_sem, wrapV, errV, opWrite]) rfl ⟨rfl, rfl⟩
  · rw [decide_eq_false hi] at HH
    clear h hd hno hi
    go_enter Tryd.func11, Tryd.ntmps11
    go_wp2_with (first
      | (go_at_call 38; refine HH.out.mono ?_; rintro e w' ⟨rfl, rfl⟩)
      | (go_at_call 37; refine (wrap_some _ _ _ _ _).mono ?_; rintro e w' ⟨rfl, rfl⟩))
    exact bodyPost_ret (v := wrapV opWrite i (errV 1)) (by simp [results, Tryd.results11, go_sem, wrapV, errV, opWrite]) rfl ⟨rfl, rfl⟩
/-- What a call that writes the disk leaves: it is in its next state, and nothing else has turned. -/
def NextD (d S M : Nat) (s' : St) (v : Value) (w : World) (e : Ending) (w' : World) : Prop := e = .returned v ∧ DiskIn w' d S M s' ∧ Chg d S M w w'
theorem SlB.range {B : Nat} {w : World} {v : Value} {l : List UInt8} (h : SlB B w v l) (h0 : 0 < l.length) : ∃ b o cap, v = .slice (some ⟨b, o, none⟩) l.length cap ∧ w.rangeAt b o (bytesV l) := by
  rcases h with ⟨rfl, _⟩ | ⟨b, o, cap, h1, _, h3, _, _⟩
  · simp at h0
  · refine ⟨b, o, cap, h1, fun j v hv => ?_⟩
    have hj : j < l.length := by have := (List.getElem?_eq_some_iff.1 hv).1; rwa [bytesV_length] at this
    rw [h3 j hj, ← hv, bytesV_at hj]
theorem slice_array (a : Addr) (cap : Nat) (W : World) : (Instr.arrayAt 78 (.slice (some a) 128 cap)).run Tryd.prog W = .ok (.pointer (some a)) W := by
  simp [Instr.arrayAt, run_underlying Tryd.underlying78]
theorem DiskIn.put {w w' : World} {d S M m i : Nat} {s : St} {l : Sec} {D : DataW Unit} (h : DiskIn w d S M s) (hm : MapIn w M s.n s.wt D) (hi : i < s.n) (hl : l.length = 128) (hw : w'.ownsMap Tryd.prog 3 secR M m (D.put (kI i) (.lit (.string l)))) (hg : w.grownBy w' (some M)) :
    DiskIn w' d S M (s.write i l) := by
  obtain ⟨a1, a2, a3⟩ := h.apart
  obtain ⟨b1, b2, b3⟩ := h.lt
  exact ⟨h.ok.write hi hl, h.pos, (hg.block d b1 (by simpa using a2)).trans h.top, (hg.block S b2 (by simpa using a3)).trans h.secs, _, hm.put hi hw⟩
set_option maxHeartbeats 1000000 in
set_option maxRecDepth 100000 in
theorem write_yes {d S M B : Nat} {s : St} (w : World) (h : DiskIn w d S M s) (hd : s.dead = false) (i : Nat) (v : Value) (l : Sec) (hi : i < s.n) (hv : SlB B w v l) (hl : l.length = 128) :
    Calls Tryd.prog 11 #[.pointer (some ⟨d, 0, none⟩), .int .i64 (i : Int), v] w (NextD d S M (s.write i l) .nilIface w) := by
  have c1 := h.c1
  have c2 := h.c2
  rw [hd] at c2
  have HH := Lib.hid (has_any w h i)
  rw [decide_eq_true (by omega)] at HH
  obtain ⟨b, o, cap, rfl, hr⟩ := hv.range (by omega)
  obtain ⟨D, hm⟩ := h.map_
  rw [hl]
  have hsa := slice_array ⟨b, o, none⟩ cap
  have hown := hm.own
  have hsz := hm.size
  have hn := h.ok.n
  have HP := Lib.hid (fun w' hw hg => DiskIn.put (w' := w') (m := Maps.size D + 1) h hm hi hl hw hg)
  have hown : World.ownsMap w.drew Tryd.prog 3 secR M (Maps.size D) D := hown.drew
  have hsec := secR_mk hl
  have HR := Lib.hid (show World.rangeAt w.drew b o _ from (World.rangeAt_drew w b o _).2 hr)
  clear h hm hd hr
  go_enter Tryd.func11, Tryd.ntmps11
  go_wp2_with (go_at_call 38; refine HH.out.mono ?_; rintro e w' ⟨rfl, rfl⟩)
  refine wp_region_still_tail 8 (by kernel_rfl) (by kernel_rfl) ?_
  simp only [List.take_succ_cons, List.take_zero, List.drop_succ_cons, List.drop_zero]
  iterate 7 still_step
  refine wpStill_load_mid rfl _ _ rfl b o rfl (bytesV l) _ HR.out Tryd.underlying78 rfl (by rw [bytesV_length, hl]; exact size_sec) ?_
  refine wpStill_nil ?_
  change wpList _ _ _ _ _ w.drew
  go_wp2_with (at_mapUpdate; refine wpList_mapUpdate_own _ rfl _ _ _ 74 rfl 3 78 keyed Tryd.underlying74 secR M (Maps.size D) D rfl hown (by unfold maxLen; omega) _ _ (kI i) rfl rfl (key_kI (by omega)) _ [] hsec ?_; intro w1 hown1 hg1)
  have HQ := Lib.hid (HP.out w1 hown1 ⟨hg1.os, hg1.tape, hg1.output, hg1.size, hg1.block⟩)
  have HG := Lib.hid (show Chg d S M w w1 from Chg.of_grown ⟨hg1.os, hg1.tape, hg1.output, hg1.size, hg1.block⟩ (Or.inr (Or.inr rfl)))
  go_ret
  exact ⟨rfl, HQ.out, HG.out⟩
end Go.Proofs.YtfhkccldgbgelaaDoor
