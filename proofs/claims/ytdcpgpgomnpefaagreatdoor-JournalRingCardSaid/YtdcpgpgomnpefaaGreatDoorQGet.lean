/-
  (*rack.Rack).Get.
-/
import Derived.Test.YtdcpgpgomnpefaaGreatDoorQRead
namespace Go.Proofs.YtdcpgpgomnpefaaGreatDoor
open Go.RowKit Go.Deep Dk Qk Go.Maps Hf
/-- Is it the frame that is asked for? -/
def asked (f : Fr) (kind slot stripe : Int) : Bool := decide (f.k = kind) && (decide (f.s = slot) && (decide (stripe < 0) || decide (f.t = stripe)))
def qfound (q : Rk) (i s kind slot stripe : Int) : Bool := decide (qrcode q i s = 0) && (goodB (qval q i s) && asked (got (qval q i s)) kind slot stripe)
def qgot (q : Rk) (i s kind slot stripe : Int) : Fr := if qfound q i s kind slot stripe = true then got (qval q i s) else zeroF
theorem rerr_bad {q : Rk} {i s : Int} (h : qrcode q i s ≠ 0) : ∃ y, qrerr q i s = .iface 165 y := by
  unfold qrcode at h
  unfold qrerr
  by_cases hi : q.has i
  · rw [if_pos hi] at h ⊢
    cases ho : q.off with
    | true => rw [if_pos rfl]; exact ⟨_, rfl⟩
    | false =>
      rw [ho, if_neg (show ¬ false = true by decide)] at h
      rw [if_neg (show ¬ false = true by decide), if_neg h]; exact ⟨_, rfl⟩
  · rw [if_neg hi]; exact ⟨_, rfl⟩
theorem rerr_good {q : Rk} {i s : Int} (h : qrcode q i s = 0) : qrerr q i s = .nilIface := by
  unfold qrcode at h
  unfold qrerr
  by_cases hi : q.has i
  · rw [if_pos hi] at h ⊢
    cases ho : q.off with
    | true => rw [ho, if_pos rfl] at h; cases h
    | false =>
      rw [ho, if_neg (show ¬ false = true by decide)] at h
      rw [if_neg (show ¬ false = true by decide), if_pos h]
  · rw [if_neg hi] at h; cases h
abbrev callG (c : Lc) (i s kind slot stripe : Int) : Array Value := #[.pointer (some ⟨c.r, 0, none⟩), .int .i64 i, .int .i64 s, .int .i64 kind, .int .i64 slot, .int .i64 stripe]
set_option maxHeartbeats 2000000 in
set_option maxRecDepth 100000 in
theorem qget_bad {lo : Nat} {c : Lc} {q : Rk} (w : World) (h : RackIn lo w c q) (i s kind slot stripe : Int) (h0 : qrcode q i s ≠ 0) :
    Calls Tryz.prog 60 #[.pointer (some ⟨c.r, 0, none⟩), .int .i64 i, .int .i64 s, .int .i64 kind, .int .i64 slot, .int .i64 stripe] w (FrameBit zeroF false w) := by
  have HR := Lib.hid (qread_any (w.alloc (.cells (frA zeroF) 101)) (h.below (one_below w _)) i s)
  obtain ⟨y, hy⟩ := rerr_bad h0
  unfold ReadQ at HR
  rw [hy] at HR
  clear h h0 hy
  have hc : (Value.agg (frA zeroF)).cells = frA zeroF := rfl
  have hz := szFr_run
  have hz0 := zero_frame
  have hsz : (frC zeroF).length = szFr := frC_length zeroF_is
  have HZ := Lib.hid (zin_new w)
  go_enter Tryz.func60, Tryz.ntmps60
  go_wp2_with (go_at_call 70; (with_reducible refine HR.out.mono ?_); rintro e w1 ⟨v, rfl, hv, hb⟩; have hst := (HZ.out.below (by simp) hb).store zeroF zeroF_is; have HL := Lib.hid ((HZ.out.below (by simp) hb).load zeroF zeroF_is); have HB := Lib.hid (bthen (one_below w _) hb); clear hv hb)
  have hl2 := HL.out
  exact bodyPost_ret (v := .tuple #[.agg (frA zeroF), .bool false]) (by simp [results, Tryz.results60, go_sem, hz, hl2]) rfl ⟨rfl, setRow_below HB.out (Nat.le_refl _) _⟩
/-- Behind Read and frame.Get: what the caller's frame becomes. -/
theorem get_end {w w1 w2 : World} {f g : Fr} (h1 : Below (w.alloc (.cells (frA zeroF) 101)).heap.size (w.alloc (.cells (frA zeroF) 101)) w1) (h2 : Below w1.heap.size w1 w2) (hg : g.is) :
    (storeCells ⟨w.heap.size, 0, none⟩ (frC g) 0).run Tryz.prog (w2.alloc (.cells (frA f) 101)) = .ok () ((w2.alloc (.cells (frA f) 101)).setRow w.heap.size (frA g)) ∧
    (loadCellsFrom ⟨w.heap.size, 0, none⟩ 0 szFr #[]).run Tryz.prog ((w2.alloc (.cells (frA f) 101)).setRow w.heap.size (frA g)) = .ok (frA g) ((w2.alloc (.cells (frA f) 101)).setRow w.heap.size (frA g)) ∧
    Below w.heap.size w ((w2.alloc (.cells (frA f) 101)).setRow w.heap.size (frA g)) := by
  have hb : Below (w.alloc (.cells (frA zeroF) 101)).heap.size (w.alloc (.cells (frA zeroF) 101)) (w2.alloc (.cells (frA f) 101)) := balloc (bthen h1 h2) _
  have hz := (zin_new w).below (by simp) hb
  exact ⟨hz.store g hg, hz.load g hg, setRow_below (bthen (one_below w _) hb) (Nat.le_refl _) _⟩
set_option maxHeartbeats 4000000 in
set_option maxRecDepth 100000 in
theorem qget_good {lo : Nat} {c : Lc} {q : Rk} (w : World) (h : RackIn lo w c q) (i s kind slot stripe : Int) (h0 : qrcode q i s = 0) :
    Calls Tryz.prog 60 #[.pointer (some ⟨c.r, 0, none⟩), .int .i64 i, .int .i64 s, .int .i64 kind, .int .i64 slot, .int .i64 stripe] w
      (FrameBit (if (goodB (qval q i s) && asked (got (qval q i s)) kind slot stripe) = true then got (qval q i s) else zeroF) (goodB (qval q i s) && asked (got (qval q i s)) kind slot stripe) w) := by
  have HR := Lib.hid (qread_any (w.alloc (.cells (frA zeroF) 101)) (h.below (one_below w _)) i s)
  unfold ReadQ at HR
  rw [rerr_good h0] at HR
  clear h h0
  have hi := got_is (qval q i s)
  have HGET := Lib.hid (fun (w : World) (v : Value) (hv : SlB w.heap.size w v (qval q i s)) => get_any w.heap.size v (qval q i s) w hv (Nat.le_refl _))
  generalize qval q i s = l at *
  generalize got l = f at *
  generalize goodB l = b at *
  have hc : (Value.agg (frA zeroF)).cells = frA zeroF := rfl
  have hc2 : (Value.agg (frA f)).cells = frA f := rfl
  have hz := szFr_run
  have hz0 := zero_frame
  have hsz : (frC zeroF).length = szFr := frC_length zeroF_is
  have hsf : (frC f).length = szFr := frC_length hi
  have HI := Lib.hid hi
  have hst : ∀ W : World, (storeCells ⟨W.heap.size, 0, none⟩ (frC f) 0).run Tryz.prog (W.alloc (.cells (frA zeroF) 101)) = .ok () (W.alloc (.cells (frA f) 101)) := fun W => storeCells_frame zeroF_is hi W
  have ends : ∀ (g : Fr) (bb : Bool) (w1 w2 : World), g.is → Below (w.alloc (.cells (frA zeroF) 101)).heap.size (w.alloc (.cells (frA zeroF) 101)) w1 → Below w1.heap.size w1 w2 → FrameBit g bb w (.returned (.tuple #[.agg (frA g), .bool bb])) ((w2.alloc (.cells (frA f) 101)).setRow w.heap.size (frA g)) :=
    fun g bb w1 w2 hg h1 h2 => ⟨rfl, (get_end h1 h2 hg).2.2⟩
  have HEND := Lib.hid ends
  clear ends hi
  have no : ∀ (hno : (b && asked f kind slot stripe) = false), (if (b && asked f kind slot stripe) = true then f else zeroF) = zeroF := fun hno => if_neg (by rw [hno]; decide)
  have HNO := Lib.hid no
  clear no
  have fins : ∀ w2 : World, (w2.alloc (.cells (frA f) 101)).cell? ⟨w2.heap.size, 0, none⟩ = some (.int .i64 f.k) ∧ (w2.alloc (.cells (frA f) 101)).cell? ⟨w2.heap.size, 1, none⟩ = some (.int .i64 f.s) ∧ (w2.alloc (.cells (frA f) 101)).cell? ⟨w2.heap.size, 2, none⟩ = some (.int .i64 f.t) ∧ (loadCellsFrom ⟨w2.heap.size, 0, none⟩ 0 szFr #[]).run Tryz.prog (w2.alloc (.cells (frA f) 101)) = .ok (frA f) (w2.alloc (.cells (frA f) 101)) :=
    fun w2 => ⟨(frIn_new w2 f HI.out).c0, (frIn_new w2 f HI.out).c1, (frIn_new w2 f HI.out).c2, (frIn_new w2 f HI.out).load⟩
  have HFI := Lib.hid fins
  clear fins
  cases hb : b with
  | false =>
    subst hb
    have HK := Lib.hid (HNO.out rfl)
    rw [show (false && asked f kind slot stripe) = false from rfl] at HK ⊢
    rw [HK.out]
    go_enter Tryz.func60, Tryz.ntmps60
    go_wp2_with (first
      | (go_at_call 70; (with_reducible refine HR.out.mono ?_); rintro e w1 ⟨v, rfl, hv, hb1⟩; have HV := Lib.hid hv; have HB1 := Lib.hid hb1; clear hv hb1)
      | (go_at_call 115; (with_reducible refine (HGET.out _ _ HV.out).mono ?_); rintro e w2 ⟨rfl, hb2⟩; have HB2 := Lib.hid hb2; have hst0 := (get_end (f := f) HB1.out hb2 zeroF_is).1; have HL := Lib.hid (get_end (f := f) HB1.out hb2 zeroF_is).2.1; clear hb2))
    have hl2 := HL.out
    exact bodyPost_ret (v := .tuple #[.agg (frA zeroF), .bool false]) (by simp [results, Tryz.results60, go_sem, hz, hl2]) rfl (HEND.out _ _ _ _ zeroF_is HB1.out HB2.out)
  | true =>
    subst hb
    rw [Bool.true_and] at *
    by_cases hk : f.k = kind
    · by_cases hs : f.s = slot
      · by_cases ht : stripe < 0
        · skip
          have k1 : (f.k == kind) = true := by simpa using hk
          have k2 : (f.k != kind) = false := by simpa using hk
          have s1 : (f.s == slot) = true := by simpa using hs
          have s2 : (f.s != slot) = false := by simpa using hs
          have HA1 := Lib.hid (decide_eq_true hk)
          have HA2 := Lib.hid (decide_eq_true hs)
          have HA3 := Lib.hid (decide_eq_true ht)
          have t1 : ¬ 0 ≤ stripe := by omega
          clear hk hs
          have HK := Lib.hid (show asked f kind slot stripe = true by unfold asked; rw [HA1.out, HA2.out, HA3.out]; simp)
          rw [HK.out, if_pos rfl]
          clear HK HNO
          go_enter Tryz.func60, Tryz.ntmps60
          go_wp2_with (first
            | (go_at_call 70; (with_reducible refine HR.out.mono ?_); rintro e w1 ⟨v, rfl, hv, hb1⟩; have HV := Lib.hid hv; have HB1 := Lib.hid hb1; clear hv hb1)
            | (go_at_call 115; (with_reducible refine (HGET.out _ _ HV.out).mono ?_); rintro e w2 ⟨rfl, hb2⟩; have HB2 := Lib.hid hb2; have hst0 := (get_end (f := f) HB1.out hb2 HI.out).1; have HL := Lib.hid (get_end (f := f) HB1.out hb2 HI.out).2.1; obtain ⟨x0, x1, x2, x3⟩ := HFI.out w2; clear hb2))
          have hl2 := HL.out
          exact bodyPost_ret (v := .tuple #[.agg (frA f), .bool true]) (by simp [results, Tryz.results60, go_sem, hz, hl2]) rfl (HEND.out _ _ _ _ HI.out HB1.out HB2.out)
        · by_cases hu : f.t = stripe
          · skip
            have k1 : (f.k == kind) = true := by simpa using hk
            have k2 : (f.k != kind) = false := by simpa using hk
            have s1 : (f.s == slot) = true := by simpa using hs
            have s2 : (f.s != slot) = false := by simpa using hs
            have u1 : (f.t == stripe) = true := by simpa using hu
            have u2 : (f.t != stripe) = false := by simpa using hu
            have HA1 := Lib.hid (decide_eq_true hk)
            have HA2 := Lib.hid (decide_eq_true hs)
            have HA3 := Lib.hid (decide_eq_true hu)
            have t1 : 0 ≤ stripe := by omega
            clear hk hs hu ht
            have HK := Lib.hid (show asked f kind slot stripe = true by unfold asked; rw [HA1.out, HA2.out, HA3.out]; simp)
            rw [HK.out, if_pos rfl]
            clear HK HNO
            go_enter Tryz.func60, Tryz.ntmps60
            go_wp2_with (first
              | (go_at_call 70; (with_reducible refine HR.out.mono ?_); rintro e w1 ⟨v, rfl, hv, hb1⟩; have HV := Lib.hid hv; have HB1 := Lib.hid hb1; clear hv hb1)
              | (go_at_call 115; (with_reducible refine (HGET.out _ _ HV.out).mono ?_); rintro e w2 ⟨rfl, hb2⟩; have HB2 := Lib.hid hb2; have hst0 := (get_end (f := f) HB1.out hb2 HI.out).1; have HL := Lib.hid (get_end (f := f) HB1.out hb2 HI.out).2.1; obtain ⟨x0, x1, x2, x3⟩ := HFI.out w2; clear hb2))
            have hl2 := HL.out
            exact bodyPost_ret (v := .tuple #[.agg (frA f), .bool true]) (by simp [results, Tryz.results60, go_sem, hz, hl2]) rfl (HEND.out _ _ _ _ HI.out HB1.out HB2.out)
          · skip
            have k1 : (f.k == kind) = true := by simpa using hk
            have k2 : (f.k != kind) = false := by simpa using hk
            have s1 : (f.s == slot) = true := by simpa using hs
            have s2 : (f.s != slot) = false := by simpa using hs
            have u1 : (f.t == stripe) = false := by simpa using hu
            have u2 : (f.t != stripe) = true := by simpa using hu
            have HA1 := Lib.hid (decide_eq_true hk)
            have HA2 := Lib.hid (decide_eq_true hs)
            have HA3 := Lib.hid (decide_eq_false hu)
            have HA4 := Lib.hid (decide_eq_false ht)
            have t1 : 0 ≤ stripe := by omega
            clear hk hs ht
            have HK := Lib.hid (show asked f kind slot stripe = false by unfold asked; rw [HA1.out, HA2.out, HA3.out, HA4.out]; first | done | rfl)
            rw [HK.out, if_neg (show ¬ false = true by decide)]
            clear HK HNO
            go_enter Tryz.func60, Tryz.ntmps60
            go_wp2_with (first
              | (go_at_call 70; (with_reducible refine HR.out.mono ?_); rintro e w1 ⟨v, rfl, hv, hb1⟩; have HV := Lib.hid hv; have HB1 := Lib.hid hb1; clear hv hb1)
              | (go_at_call 115; (with_reducible refine (HGET.out _ _ HV.out).mono ?_); rintro e w2 ⟨rfl, hb2⟩; have HB2 := Lib.hid hb2; have hst0 := (get_end (f := f) HB1.out hb2 zeroF_is).1; have HL := Lib.hid (get_end (f := f) HB1.out hb2 zeroF_is).2.1; obtain ⟨x0, x1, x2, x3⟩ := HFI.out w2; clear hb2))
            have hl2 := HL.out
            exact bodyPost_ret (v := .tuple #[.agg (frA zeroF), .bool false]) (by simp [results, Tryz.results60, go_sem, hz, hl2]) rfl (HEND.out _ _ _ _ zeroF_is HB1.out HB2.out)
      · skip
        have k1 : (f.k == kind) = true := by simpa using hk
        have k2 : (f.k != kind) = false := by simpa using hk
        have s1 : (f.s == slot) = false := by simpa using hs
        have s2 : (f.s != slot) = true := by simpa using hs
        have HA1 := Lib.hid (decide_eq_true hk)
        have HA2 := Lib.hid (decide_eq_false hs)
        have HA3 := Lib.hid (True.intro)
        have HA4 := Lib.hid (True.intro)
        clear hk
        have HK := Lib.hid (show asked f kind slot stripe = false by unfold asked; rw [HA1.out, HA2.out]; first | done | rfl)
        rw [HK.out, if_neg (show ¬ false = true by decide)]
        clear HK HNO
        go_enter Tryz.func60, Tryz.ntmps60
        go_wp2_with (first
          | (go_at_call 70; (with_reducible refine HR.out.mono ?_); rintro e w1 ⟨v, rfl, hv, hb1⟩; have HV := Lib.hid hv; have HB1 := Lib.hid hb1; clear hv hb1)
          | (go_at_call 115; (with_reducible refine (HGET.out _ _ HV.out).mono ?_); rintro e w2 ⟨rfl, hb2⟩; have HB2 := Lib.hid hb2; have hst0 := (get_end (f := f) HB1.out hb2 zeroF_is).1; have HL := Lib.hid (get_end (f := f) HB1.out hb2 zeroF_is).2.1; obtain ⟨x0, x1, x2, x3⟩ := HFI.out w2; clear hb2))
        have hl2 := HL.out
        exact bodyPost_ret (v := .tuple #[.agg (frA zeroF), .bool false]) (by simp [results, Tryz.results60, go_sem, hz, hl2]) rfl (HEND.out _ _ _ _ zeroF_is HB1.out HB2.out)
    · skip
      have k1 : (f.k == kind) = false := by simpa using hk
      have k2 : (f.k != kind) = true := by simpa using hk
      have HA1 := Lib.hid (decide_eq_false hk)
      have HK := Lib.hid (show asked f kind slot stripe = false by unfold asked; rw [HA1.out]; first | done | rfl)
      rw [HK.out, if_neg (show ¬ false = true by decide)]
      clear HK HNO
      go_enter Tryz.func60, Tryz.ntmps60
      go_wp2_with (first
        | (go_at_call 70; (with_reducible refine HR.out.mono ?_); rintro e w1 ⟨v, rfl, hv, hb1⟩; have HV := Lib.hid hv; have HB1 := Lib.hid hb1; clear hv hb1)
        | (go_at_call 115; (with_reducible refine (HGET.out _ _ HV.out).mono ?_); rintro e w2 ⟨rfl, hb2⟩; have HB2 := Lib.hid hb2; have hst0 := (get_end (f := f) HB1.out hb2 zeroF_is).1; have HL := Lib.hid (get_end (f := f) HB1.out hb2 zeroF_is).2.1; obtain ⟨x0, x1, x2, x3⟩ := HFI.out w2; clear hb2))
      have hl2 := HL.out
      exact bodyPost_ret (v := .tuple #[.agg (frA zeroF), .bool false]) (by simp [results, Tryz.results60, go_sem, hz, hl2]) rfl (HEND.out _ _ _ _ zeroF_is HB1.out HB2.out)
theorem qget_any {lo : Nat} {c : Lc} {q : Rk} (w : World) (h : RackIn lo w c q) (i s kind slot stripe : Int) :
    Calls Tryz.prog 60 #[.pointer (some ⟨c.r, 0, none⟩), .int .i64 i, .int .i64 s, .int .i64 kind, .int .i64 slot, .int .i64 stripe] w (FrameBit (qgot q i s kind slot stripe) (qfound q i s kind slot stripe) w) := by
  unfold qgot qfound
  by_cases h0 : qrcode q i s = 0
  · rw [decide_eq_true h0, Bool.true_and]
    exact qget_good w h i s kind slot stripe h0
  · rw [decide_eq_false h0, Bool.false_and, if_neg (show ¬ false = true by decide)]
    exact qget_bad w h i s kind slot stripe h0
theorem qgot_is (q : Rk) (i s kind slot stripe : Int) : (qgot q i s kind slot stripe).is := by
  unfold qgot
  split
  · exact got_is _
  · exact zeroF_is
end Go.Proofs.YtdcpgpgomnpefaaGreatDoor
