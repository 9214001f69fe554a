/-
  A rack that a law has made: it, and that nothing that was there ahead of the law has turned. The rack's calls as steps of a walk.
-/
import Derived.Test.YtdcpgpgomnpefaaGreatDoorQOps
import Derived.Test.YtdcpgpgomnpefaaGreatDoorQNew
import Derived.Test.YtdcpgpgomnpefaaGreatDoorQGet
import Derived.Test.YtdcpgpgomnpefaaGreatDoorQBoot
namespace Go.Proofs.YtdcpgpgomnpefaaGreatDoor
open Go.RowKit Go.Deep Dk Qk Go.Maps Hf
structure QS (w0 : World) (c : Lc) (q : Rk) (w : World) : Prop where
  rack : RackIn w0.heap.size w c q
  base : Below w0.heap.size w0 w
theorem QS.le {w0 w : World} {c : Lc} {q : Rk} (h : QS w0 c q w) : w0.heap.size ≤ w.heap.size := h.base.size
theorem QS.below {w0 w w' : World} {c : Lc} {q : Rk} (h : QS w0 c q w) (hb : Below w.heap.size w w') : QS w0 c q w' := ⟨h.rack.below hb, bthen h.base hb⟩
theorem QS.drew {w0 w : World} {c : Lc} {q : Rk} (h : QS w0 c q w) : QS w0 c q w.drew := ⟨h.rack.drewN 1, h.base.drew⟩
theorem QS.drewN {w0 w : World} {c : Lc} {q : Rk} (h : QS w0 c q w) (n : Nat) : QS w0 c q (w.drewN n) := ⟨h.rack.drewN n, below_drewN h.base n⟩
theorem QS.next {w0 w w' : World} {c : Lc} {q q' : Rk} (h : QS w0 c q w) (hr : RackIn w0.heap.size w' c q') (hc : RC c q.n w w') : QS w0 c q' w' := ⟨hr, hc.below h.rack h.base h.le⟩
theorem QS.congr {w0 w : World} {c : Lc} {q q' : Rk} (h : QS w0 c q w) (e : q = q') : QS w0 c q' w := e ▸ h
/-- What a call on a rack leaves. -/
def QN (w0 : World) (c : Lc) (n : Nat) (q' : Rk) (v : Value) (w : World) (e : Ending) (w' : World) : Prop := e = .returned v ∧ QS w0 c q' w' ∧ RC c n w w'
theorem QS.of {w0 w : World} {c : Lc} {q q' : Rk} {v : Value} {f : Nat} {args : Array Value} (h : QS w0 c q w) (hc : Calls Tryz.prog f args w (NextR w0.heap.size c q.n q' v w)) : Calls Tryz.prog f args w (QN w0 c q.n q' v w) :=
  hc.mono fun _ _ ⟨h1, h2, h3⟩ => ⟨h1, h.next h2 h3, h3⟩
theorem QS.write {w0 w : World} {c : Lc} {q : Rk} (h : QS w0 c q w) (i sec : Int) (v : Value) (l : List UInt8) (hv : SlB w.heap.size w v l) :
    Calls Tryz.prog 46 #[.pointer (some ⟨c.r, 0, none⟩), .int .i64 i, .int .i64 sec, v] w (QN w0 c q.n (q.write i sec l) (evs opQWrite (q.wcode i sec l.length) i) w) := h.of (qwrite_any w h.rack i sec v l hv)
theorem QS.flush {w0 w : World} {c : Lc} {q : Rk} (h : QS w0 c q w) (i : Int) :
    Calls Tryz.prog 49 #[.pointer (some ⟨c.r, 0, none⟩), .int .i64 i] w (QN w0 c q.n (q.flush i) (evs opQFlush (q.fcode i) i) w) := h.of (qflush_any w h.rack i)
theorem QS.arm {w0 w : World} {c : Lc} {q : Rk} (h : QS w0 c q w) (n : Int) (h1 : -9223372036854775808 ≤ n) (h2 : n < 9223372036854775808) :
    Calls Tryz.prog 37 #[.pointer (some ⟨c.r, 0, none⟩), .int .i64 n] w (QN w0 c q.n (q.arm n) (.tuple #[]) w) := h.of (qarm_any w h.rack n h1 h2)
theorem QS.boot {w0 w : World} {c : Lc} {q : Rk} (h : QS w0 c q w) (v : Value) (l : List Nat) (hv : SlU w.heap.size w v l) (hl : ∀ x, x < l.length → l.getD x 0 < 18446744073709551616) :
    Calls Tryz.prog 38 #[.pointer (some ⟨c.r, 0, none⟩), v] w (QN w0 c q.n (q.boot fun i => l.getD i 0) (.tuple #[]) w) := h.of (qboot_any w h.rack v l hv (Nat.le_refl _) hl)
theorem QS.off {w0 w : World} {c : Lc} {q : Rk} (h : QS w0 c q w) : Calls Tryz.prog 67 #[.pointer (some ⟨c.r, 0, none⟩)] w (BitSame q.off w) := qoff_any w h.rack
theorem QS.read {w0 w : World} {c : Lc} {q : Rk} (h : QS w0 c q w) (i s : Int) :
    Calls Tryz.prog 70 #[.pointer (some ⟨c.r, 0, none⟩), .int .i64 i, .int .i64 s] w (ReadQ q i s w) := qread_any w h.rack i s
theorem QS.get {w0 w : World} {c : Lc} {q : Rk} (h : QS w0 c q w) (i s kind slot stripe : Int) :
    Calls Tryz.prog 60 #[.pointer (some ⟨c.r, 0, none⟩), .int .i64 i, .int .i64 s, .int .i64 kind, .int .i64 slot, .int .i64 stripe] w (FrameBit (qgot q i s kind slot stripe) (qfound q i s kind slot stripe) w) := qget_any w h.rack i s kind slot stripe
/-- A new rack, as a law begins. -/
def QNew (w0 : World) (n k : Nat) (e : Ending) (w' : World) : Prop := ∃ c : Lc, e = .returned (.tuple #[.pointer (some ⟨c.r, 0, none⟩), .nilIface]) ∧ QS w0 c (newRk n k) w'
theorem qs_new (n k : Nat) (w : World) (h1 : 1 ≤ n) (h2 : n ≤ 8) (h3 : 1 ≤ k) (h4 : k ≤ 128) : Calls Tryz.prog 23 #[.int .i64 (n : Int), .int .i64 (k : Int)] w (QNew w n k) :=
  (qnew_yes n k w h1 h2 h3 h4).mono fun _ _ ⟨c, h1, h2, h3⟩ => ⟨c, h1, h2, h3⟩
/-! ### rows of bytes made behind the rack -/
def Far (B : Nat) (c : Lc) (n : Nat) : Prop := c.r < B ∧ ∀ i, i < n → c.d i < B ∧ c.S i < B ∧ c.M i < B
theorem RackIn.far {lo : Nat} {w : World} {c : Lc} {q : Rk} (h : RackIn lo w c q) : Far w.heap.size c q.n := ⟨h.lt.1, fun i hi => (h.disk i hi).lt⟩
theorem Far.mono {B B' : Nat} {c : Lc} {n : Nat} (h : Far B c n) (hB : B ≤ B') : Far B' c n := ⟨Nat.lt_of_lt_of_le h.1 hB, fun i hi => ⟨Nat.lt_of_lt_of_le (h.2 i hi).1 hB, Nat.lt_of_lt_of_le (h.2 i hi).2.1 hB, Nat.lt_of_lt_of_le (h.2 i hi).2.2 hB⟩⟩
/-- A row of bytes that lies behind B. -/
def RowN (B : Nat) (w : World) (v : Value) (l : List UInt8) : Prop := SlB w.heap.size w v l ∧ ∀ b o n cap, v = .slice (some ⟨b, o, none⟩) n cap → B ≤ b
theorem RowN.slb {B : Nat} {w : World} {v : Value} {l : List UInt8} (h : RowN B w v l) : SlB w.heap.size w v l := h.1
theorem RowN.below {B : Nat} {w w' : World} {v : Value} {l : List UInt8} (h : RowN B w v l) (hb : Below w.heap.size w w') : RowN B w' v l := ⟨(h.1.below hb).wider hb.size, h.2⟩
theorem RowN.rc {B n : Nat} {w w' : World} {c : Lc} {v : Value} {l : List UInt8} (h : RowN B w v l) (hf : Far B c n) (hc : RC c n w w') : RowN B w' v l := by
  refine ⟨?_, h.2⟩
  rcases h.1 with h0 | ⟨b, o, cap, h1, h2, h3, h4, h5⟩
  · exact Or.inl h0
  · have hB := h.2 b o _ _ h1
    obtain ⟨f1, f2⟩ := hf
    exact Or.inr ⟨b, o, cap, h1, Nat.lt_of_lt_of_le h2 hc.size, fun x hx => (World.cell?_of_block (a := ⟨b, o + x, none⟩) (hc.block b h2 (by omega) (fun i hi => by have := f2 i hi; omega))).trans (h3 x hx), h4, h5⟩
theorem rowN_own {B : Nat} {w : World} {v : Value} {l : List UInt8} (h : w.ownsRow B 5 1 v l.length (bytesV l)) : RowN B w v l := by
  refine ⟨slb_own h, fun b o n cap e => ?_⟩
  rcases h.2 with ⟨rfl, _⟩ | ⟨g', cap', cur', h1, hB, _⟩
  · cases e
  · rw [h1] at e
    injection e with e _ _
    injection e with e
    injection e with e _ _
    omega
/-! ### states -/
theorem ready_ok {q : Rk} {i : Nat} (h1 : i < q.n) (h2 : q.off = false) (h3 : (q.s i).dead = false) : q.ready (i : Int) = 0 := by
  unfold Rk.ready
  rw [if_pos (show q.has (i : Int) from ⟨by omega, by omega⟩), Int.toNat_natCast, h2, h3]
  exact if_neg (by decide)
theorem ready_off {q : Rk} {i : Nat} (h1 : i < q.n) (h2 : q.off = true) : q.ready (i : Int) = 5 := by
  unfold Rk.ready
  rw [if_pos (show q.has (i : Int) from ⟨by omega, by omega⟩), h2, Bool.true_or]
  rfl
/-- An operation that is performed. -/
theorem spent_goes {q : Rk} (h : ¬ q.rem = 0) : q.spent.off = q.off ∧ q.spent.rem = if 0 < q.rem then q.rem - 1 else q.rem := by
  unfold Rk.spent
  rw [if_neg h]
  by_cases h1 : 0 < q.rem
  · rw [if_pos h1, if_pos h1]; exact ⟨rfl, rfl⟩
  · rw [if_neg h1, if_neg h1]; exact ⟨rfl, rfl⟩
theorem spent_last {q : Rk} (h : q.rem = 0) : q.spent.off = true ∧ q.spent.rem = 0 := by
  unfold Rk.spent
  rw [if_pos h]; exact ⟨rfl, h⟩
end Go.Proofs.YtdcpgpgomnpefaaGreatDoor
