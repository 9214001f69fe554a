/-
  The reference's disk: keep.
-/
import Derived.Test.YtfhkccldgbgelaaDoorRBoth
namespace Go.Proofs.YtfhkccldgbgelaaDoor
open Go.RowKit Go.Deep Dk Go.Maps
theorem ByteRow.shape {w : World} {v : Value} {l : Sec} (h : ByteRow w v l) : ∃ g cap, v = .slice (some ⟨g, 0, none⟩) 128 cap := by
  obtain ⟨_, g, cap, _, h, _⟩ := h; exact ⟨g, cap, h⟩
def keepR (s : St) (i : Nat) : St := match s.wt i with | some l => both s i l false | none => s
theorem keepR_some {s : St} {i : Nat} {l : Sec} (h : s.wt i = some l) : keepR s i = both s i l false := by unfold keepR; rw [h]
theorem keepR_none {s : St} {i : Nat} (h : s.wt i = none) : keepR s i = s := by unfold keepR; rw [h]
set_option maxHeartbeats 4000000 in
set_option maxRecDepth 100000 in
theorem rkeep_any {r A C E : Nat} {s : St} (w : World) (h : RefIn w r A C E s) (i : Nat) (hi : i < s.n) :
    Calls Tryd.prog 44 #[.pointer (some ⟨r, 0, none⟩), .int .i64 (i : Int)] w (RNext r A C E (keepR s i) (.tuple #[]) w) := by
  obtain ⟨capA, hcap, c0, c1, c2, _⟩ := h.cells
  obtain ⟨D, hC⟩ := h.cache
  have HC := Lib.hid hC
  have H0 := Lib.hid h
  have hn := h.ok.n
  have hap := h.apart
  have i1 : (i : Int) < s.n := by omega
  have i2 : (0 : Int) ≤ i := by omega
  cases hw : s.wt i with
  | none =>
    rw [keepR_none hw]
    have HW := Lib.hid hw
    clear h hC hw
    go_enter Tryd.func44, Tryd.ntmps44
    go_wp2_with (at_lookup; refine wpList_lookup_cache _ rfl _ _ rfl rfl rfl HC.out hi (by omega) ?_; rw [HW.out]; intro v hv; have hv := (hv.resolve_right (by rintro ⟨_, h, _⟩; cases h)).2; subst hv)
    go_end0
    exact ⟨rfl, H0.out, RChg.refl _ _ _ _ _⟩
  | some l =>
    rw [keepR_some hw]
    have HW := Lib.hid hw
    clear h hC hw
    go_enter Tryd.func44, Tryd.ntmps44
    go_upto_region 2 with (at_lookup; refine wpList_lookup_cache _ rfl _ _ rfl rfl rfl HC.out hi (by omega) ?_; rw [HW.out]; intro v hv; have HV := Lib.hid (show ByteRow w v l by obtain ⟨l', h1, h2⟩ := hv.resolve_left (by rintro ⟨h, _⟩; cases h); cases h1; exact h2); clear hv; obtain ⟨gv, cpv, rfl⟩ := HV.out.shape)
    have hW := ways (H0.out.drew) hi (HV.out.keep (w' := w.drew) fun _ _ _ => rfl) false
    obtain ⟨v0, born, w1, e1, hr1, ⟨u1, k1⟩, f1, ⟨w2, e2, hr2, ⟨u2, k2⟩, f2, hr3, F1⟩, hr4, ⟨w3, e3, hr5, F2⟩⟩ := hW.one
    obtain ⟨v0', born', w4, e4, hr6, hr7, ⟨w5, e5, hr8, F3⟩⟩ := hW.two
    obtain ⟨u0, k0⟩ := hW.cell
    have f0 := hW.frozen
    have e4' : (Instr.mapEntry 54 (.map (some E)) (.int .i64 (i : Int))).run Tryd.prog (w.setCell ⟨A, i, none⟩ (.slice (some ⟨gv, 0, none⟩) 128 cpv)).drew = .ok (.tuple #[v0', .int .i64 ((born' : Nat) : Int)]) w4 := e4
    have k0' : w.cell? ⟨A, i, none⟩ = some u0 := k0
    have f0' : w.frozen? ⟨A, i, none⟩ = false := f0
    have HF1 := Lib.hid F1
    have HF2 := Lib.hid F2
    have HF3 := Lib.hid F3
    have HMEM := Lib.hid (fun (w' : World) (hb : w'.heap[r]? = w.heap[r]?) => show w'.cell? ⟨r, 0, none⟩ = some (.slice (some ⟨A, 0, none⟩) s.n capA) ∧ w'.cell? ⟨r, 2, none⟩ = some (.map (some E)) from
      ⟨(World.cell?_of_block (a := ⟨r, 0, none⟩) hb).trans c0, (World.cell?_of_block (a := ⟨r, 2, none⟩) hb).trans c2⟩)
    clear hW F1 F2 F3
    go_region_held3 (fun w' => w'.cell? ⟨r, 0, none⟩ = some (.slice (some ⟨A, 0, none⟩) s.n capA) ∧ w'.cell? ⟨r, 2, none⟩ = some (.map (some E))) ((refine HMEM.out _ ?_; first | rfl | assumption | exact hr6)) (fail)
    all_goals
      go_wp2
      go_end0
      first
        | exact ⟨rfl, HF1.out.1, RChg.of_drew HF1.out.2⟩
        | exact ⟨rfl, HF2.out.1, RChg.of_drew HF2.out.2⟩
        | exact ⟨rfl, HF3.out.1, RChg.of_drew HF3.out.2⟩
end Go.Proofs.YtfhkccldgbgelaaDoor
