/-
  stavelaw14.some.
-/
import Derived.Test.YtilljaneegbhlaaGreatPB
import Derived.Deep.RegionHeld3
import Derived.Deep.CutBlock
import Derived.Deep.DeepCutAuto
namespace Go.Proofs.YtilljaneegbhlaaGreat
open Go.RowKit Go.Deep Crc Dk Qk Go.Maps Hf
attribute [local go_sem ↓] Go.wp_at_zero Go.wp_at_succ
theorem step_append_bytes (w : World) {ops : Array Oper} {o : Oper} {a : Act} {K : Act → World → Prop} {Q : Exit → Act → World → Prop} {E : Prop} (hgd : o.guard = none) (s x : Operand)
    (ho : o.op = .call { callee := .builtin .append, args := #[s, x], argTypes := #[24, 24] })
    (base : Nat) (v : Value) (n : Nat) (xs : List Value) (hsv : a.eval s = v) (hown : w.ownsRow base 5 1 v n xs)
    (B : Nat) (y : Value) (l : List UInt8) (hx : a.eval x = y) (hs : SlB B w y l) (h63 : n + l.length ≤ 10000000) (hbase : base ≤ w.heap.size)
    (h : ∀ v' w', w'.ownsRow base 5 1 v' (n + l.length) (xs ++ bytesV l) → Grew w v.ownBlock w' v'.ownBlock → K (a.put o.dst v') w') : if Region.wanted o (yielded ops a.tmps) = true then Oper.wp Tryz.prog o a w K Q else E := by
  have hw : Region.wanted o (yielded ops a.tmps) = true := by simp [Region.wanted, hgd]
  rw [if_pos hw]
  obtain ⟨i0, hi0, hz0, hz1, hz2⟩ := info_u8
  exact wp_append_src w s x 24 24 ho base 5 i0 (.int .u8 0) 1 1 Tryz.underlying24 hi0 hz0 hz1 hz2 rfl v n xs hsv hown y l.length (bytesV l) hx hs.src (by unfold maxLen; omega) (by omega) hbase fun v' w' h1 h2 _ => h v' w' h1 h2
def piece (mo : Nat) (l : List UInt8) : List UInt8 := l.take (min l.length mo)
theorem piece_length (mo : Nat) (l : List UInt8) : (piece mo l).length = min l.length mo := by unfold piece; rw [List.length_take]; omega
def pieces (mo : Nat) (ls : List (List UInt8)) (n : Nat) : List (List UInt8) := tabL n fun i => piece mo (ls.getD i [])
theorem tabL_next (n : Nat) (f : Nat → List UInt8) : tabL (n + 1) f = tabL n f ++ [f n] := by simp [tabL, List.range_succ]
def KW (W w' : World) : Prop := Below W.heap.size W w'
theorem KW.drew {W w' : World} (h : KW W w') : KW W w'.drew := Below.drew h
theorem KW.alloc {W w' : World} (h : KW W w') (o : Obj) : KW W (w'.alloc o) := balloc h o
theorem empty_at (w wx : World) (h : wx.heap = (w.alloc (.cells #[] 5)).heap) : wx.ownsRow w.heap.size 5 1 (.slice (some ⟨w.heap.size, 0, none⟩) 0 0) 0 [] := by
  refine ⟨rfl, Or.inr ⟨w.heap.size, 0, #[], rfl, Nat.le_refl _, ?_, Nat.le_refl _, Nat.zero_le _, rfl, rfl⟩⟩
  rw [h]; exact heap_alloc_new w _
theorem own_push {w wx : World} {B e size n : Nat} {v : Value} {xs : List Value} (h : w.ownsRow B e size v n xs) (o : Obj) (hx : wx.heap = (w.alloc o).heap) : wx.ownsRow B e size v n xs := by
  have h1 := own_below h (one_below w o)
  obtain ⟨a, b⟩ := h1
  exact ⟨a, by rw [hx]; exact b⟩
theorem slb_push {B : Nat} {w wx : World} {v : Value} {l : List UInt8} (h : SlB B w v l) (hB : B ≤ w.heap.size) (o : Obj) (hx : wx.heap = (w.alloc o).heap) : SlB B wx v l := h.mono fun b o' hb => by
  have := (one_below w o).cell (p := ⟨b, o', none⟩) (show b < w.heap.size by omega)
  unfold World.cell? at *
  rw [hx]; exact this
theorem grew_back {w wx w2 : World} {o : Obj} {r r2 : Option Nat} (hg : Grew wx r w2 r2) (h1 : wx.heap = (w.alloc o).heap) (h2 : wx.os = w.os) (h3 : wx.tape = w.tape) (h4 : wx.output = w.output) : Grew (w.alloc o) r w2 r2 :=
  ⟨⟨hg.by_.os.trans h2, hg.by_.tape.trans h3, hg.by_.output.trans h4, by rw [← h1]; exact hg.by_.size, fun k hk hr => by rw [← h1] at hk ⊢; exact hg.by_.block k hk hr⟩, by rw [← h1]; exact hg.own⟩
/-- Behind an append onto a new row. -/
theorem grew_new0 {w1 w2 : World} {o : Obj} {r : Option Nat} (hg : Grew (w1.alloc o) (some w1.heap.size) w2 r) : Below w1.heap.size w1 w2 :=
  (one_below w1 o).trans (hg.below (by simp) (fun k hk => by injection hk with hk; omega))
theorem new_at {v : Value} (w wx : World) (T : TypeId) (h : wx.heap = (w.alloc (.cells #[v] T)).heap) : wx.cell? ⟨w.heap.size, 0, none⟩ = some v := by
  have := new_cells w #[v] T 0 v rfl
  unfold World.cell? at *
  rw [h]; exact this
theorem own_unit {w : World} {B e n : Nat} {v : Value} {xs : List Value} (h : w.ownsRow B e 1 v n xs) : v.oneCell' = true := by
  obtain ⟨a, c, rfl, _⟩ := own_slice h
  rfl
theorem size_push {w wx : World} {o : Obj} {B : Nat} (h : wx.heap = (w.alloc o).heap) (hB : B ≤ w.heap.size) : B ≤ wx.heap.size := by rw [h]; simp; omega
theorem snoc_at {mo : Nat} {ls : List (List UInt8)} {i : Nat} {w wr w2 w3 : World} {v v2 v3 : Value} {us : List Value} {pc : List UInt8} {o : Obj} (hO : OwnLs w.heap.size wr v us (pieces mo ls i)) (hb : Below w.heap.size w wr)
    (hu : w2.ownsRow wr.heap.size 5 1 v2 pc.length (bytesV pc)) (hb2 : Below wr.heap.size wr w2) (ho3 : w3.ownsRow w.heap.size 24 1 v3 ((pieces mo ls i).length + 1) (us ++ [v2])) (hg : Grew (w2.alloc o) v.ownBlock w3 v3.ownBlock) (hpc : pieces mo ls (i + 1) = pieces mo ls i ++ [pc]) :
    OwnLs w.heap.size w3 v3 (us ++ [v2]) (pieces mo ls (i + 1)) ∧ KW w w3 := by
  refine ⟨by rw [hpc]; exact hO.snoc_new hb.size hb2 hu (one_below w2 o) ho3 hg, ?_⟩
  have h1 : Below w.heap.size w (w2.alloc o) := balloc (bthen hb hb2) o
  exact h1.trans (hg.below h1.size fun q hq => (own_block hO.top hq).1)
/-- What some answers. -/
def someL (mo : Nat) (ls : List (List UInt8)) : List (List UInt8) := pieces mo ls (min ls.length 6)
def SomeOut (mo : Nat) (ls : List (List UInt8)) (w : World) (e : Ending) (w' : World) : Prop := ∃ v us, e = .returned v ∧ OwnLs w.heap.size w' v us (someL mo ls) ∧ Below w.heap.size w w'
def RelSo (mo : Nat) (ls : List (List UInt8)) (w : World) (v c : Value) (wr : World) : Prop := ∃ (i : Nat) (us : List Value), i ≤ 6 ∧ i ≤ ls.length ∧ c = .int .i64 i ∧ OwnLs w.heap.size wr v us (pieces mo ls i) ∧ Below w.heap.size w wr
set_option maxHeartbeats 8000000 in
set_option maxRecDepth 100000 in
theorem some_any (w : World) (v : Value) (ls : List (List UInt8)) (mo : Nat) (hmo : mo ≤ 1000) (h : SlBs w.heap.size w v ls) (hl : ls.length ≤ maxLen) (hls : ∀ l ∈ ls, l.length ≤ maxLen) :
    Calls Tryz.prog 18 #[v, .int .i64 (mo : Int)] w (SomeOut mo ls w) := by
  obtain ⟨a, cap, rfl, hcap⟩ := h.len
  have H := Lib.hid h
  have HLS := Lib.hid hls
  have HMO := Lib.hid hmo
  unfold maxLen at hl
  clear h hls
  go_enter Tryz.func18, Tryz.ntmps18
  go_wp2_with fail
  go_loopw [5, 6] (fun v c wr => RelSo mo ls w v c wr) (fun _ c _ => ls.length - (intOf c).toNat)
  case atStart => exact ⟨0, [], by omega, by omega, rfl, ownLs_nil _ _, Below.refl _ _⟩
  case round =>
    obtain ⟨i, us, hi6, hi, rfl, hO, hb⟩ := hrel
    have HO := Lib.hid hO
    have HB := Lib.hid hb
    have hz := hb.size
    have hsl := hO.slice
    rw [show (pieces mo ls i).length = i from tabL_length ..] at hsl
    obtain ⟨gx, cx, rfl, _⟩ := hsl
    by_cases hlt : i < ls.length
    · by_cases hlt6 : i < 6
      · obtain ⟨b, o, cap', u, e1, _, hbl, hu1, hu2⟩ := (H.out.below hb).row hlt
        injection e1 with e1 _ e1'
        subst e1 e1'
        obtain ⟨a2, c2, rfl, hc2⟩ := hu2.len
        have hll := HLS.out _ (show ls.getD i [] ∈ ls by simp [List.getD, hlt])
        unfold maxLen at hll
        have HP := Lib.hid (slb_take (m := min (ls.getD i []).length mo) hu2 (by omega))
        rw [show (ls.getD i []).take (min (ls.getD i []).length mo) = piece mo (ls.getD i []) from rfl] at HP
        have hpl := piece_length mo (ls.getD i [])
        have HPI := Lib.hid (show pieces mo ls (i + 1) = pieces mo ls i ++ [piece mo (ls.getD i [])] from tabL_next ..)
        have hm : (if (mo : Int) < (ls.getD i []).length then (mo : Int) else ((ls.getD i []).length : Int)) = ((min (ls.getD i []).length mo : Nat) : Int) := by split <;> omega
        have hm' : (if mo < (ls.getD i []).length then (mo : Int) else ((ls.getD i []).length : Int)) = ((min (ls.getD i []).length mo : Nat) : Int) := by split <;> omega
        have hm2 : min ((ls.getD i []).length : Int) (mo : Int) = ((min (ls.getD i []).length mo : Nat) : Int) := by omega
        have hp1 : min (ls.getD i []).length mo ≤ 1000 := by omega
        have hp2 : min (ls.getD i []).length mo ≤ c2 := by omega
        generalize piece mo (ls.getD i []) = pc at *
        generalize (ls.getD i []).length = n2 at *
        generalize min n2 mo = mm at *
        subst hpl
        have i1 : (0 : Int) ≤ pc.length := by omega
        have i2 : (pc.length : Int) ≤ c2 := by omega
        have i3 : (i : Int) < ls.length := by omega
        have i4 : (0 : Int) ≤ i := by omega
        have hmem : ∀ w', KW w w' → KW w w' ∧ w'.cell? ⟨b, o + i, none⟩ = some (.slice a2 n2 c2) := fun w' hk => ⟨hk, by
          rw [Below.cell hk (p := ⟨b, o + i, none⟩) hbl, ← hb.cell (p := ⟨b, o + i, none⟩) hbl]; exact hu1⟩
        have HMEM := Lib.hid hmem
        have hk0 : KW w wr := hb
        clear hO hb hu2 hmem
        go_wp2_with fail
        go_region_held3 (fun w' => KW w w' ∧ w'.cell? ⟨b, o + i, none⟩ = some (.slice a2 n2 c2)) (exact HMEM.out _ (by (repeat (first | assumption | refine KW.drew ?_ | refine KW.alloc ?_ _)))) (first | (refine step_append_bytes (o := ⟨some 31, _, _, _, _, _⟩) _ rfl (.tmp 18) (.tmp 30) (by rfl) wr.heap.size _ 0 [] (by rfl) ?_ w.heap.size _ pc (by rfl) ?_ ?_ ?_ ?_; exact empty_at wr _ (by rfl); exact slb_push HP.out hz (.cells #[] 5) (by rfl); omega; exact size_push (w := wr) (o := .cells #[] 5) (by rfl) (Nat.le_refl _); intro v2 w2 hown hg; rw [Nat.zero_add, List.nil_append] at hown; obtain ⟨g2, q2, rfl, _⟩ := own_slice hown; have HU2 := Lib.hid hown; have HB2 := Lib.hid (grew_new0 (grew_back (w := wr) (o := .cells #[] 5) hg (by rfl) (by rfl) (by rfl) (by rfl))); have hk2 : KW w w2 := bthen HB.out HB2.out; have hz2 := HB2.out.size; have HO2 := Lib.hid (HO.out.below HB2.out); clear hown hg) | ((refine step_append_row (o := ⟨some 33, _, _, _, _, _⟩) _ rfl (.tmp 17) (.tmp 32) rfl w.heap.size (.slice gx i cx) (pieces mo ls i).length us ?_ ?_ w2.heap.size (.slice g2 pc.length q2) ?_ ?_ ?_ ?_ ?_ ?_); go_loud (rfl); go_loud (exact own_push HO2.out.top (.cells #[.slice g2 pc.length q2] 24) (by rfl)); go_loud (rfl); go_loud (exact new_at w2 _ 24 (by rfl)); go_loud (exact own_unit HU2.out); (first | omega | (rw [show (pieces mo ls i).length = i from tabL_length ..]; omega)); exact size_push (w := w2) (o := .cells #[.slice g2 pc.length q2] 24) (by rfl) (Nat.le_trans hz hz2); intro v3 w3 hown hg; go_loud (have hgb := grew_back (w := w2) (o := .cells #[.slice g2 pc.length q2] 24) hg (by rfl) (by rfl) (by rfl) (by rfl)); go_loud (have HN := Lib.hid (snoc_at HO.out HB.out HU2.out HB2.out hown hgb HPI.out)); have hk3 : KW w w3 := HN.out.2; clear hown hg hgb))
        all_goals
          go_wp2_with fail
          refine ⟨⟨i + 1, _, by omega, by omega, by go_num, HN.out.1, HN.out.2⟩, by simp [intOf]; omega⟩
      · obtain rfl : i = 6 := by omega
        have HX := Lib.hid (show someL mo ls = pieces mo ls 6 by unfold someL; rw [show min ls.length 6 = 6 by omega])
        have i3 : (6 : Int) < ls.length := by omega
        clear hO hb
        go_wp2_with fail
        go_ret
        exact ⟨_, us, rfl, by rw [HX.out]; exact HO.out, HB.out⟩
    · obtain rfl : i = ls.length := by omega
      have HX := Lib.hid (show someL mo ls = pieces mo ls ls.length by unfold someL; rw [show min ls.length 6 = ls.length by omega])
      clear hO hb
      go_wp2_with fail
      go_ret
      exact ⟨_, us, rfl, by rw [HX.out]; exact HO.out, HB.out⟩
end Go.Proofs.YtilljaneegbhlaaGreat
