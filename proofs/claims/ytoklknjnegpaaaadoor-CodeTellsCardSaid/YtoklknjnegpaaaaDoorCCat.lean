/-
  slices.Grow of nil, slices.Concat of slices of bytes.
-/
import Derived.Test.YtoklknjnegpaaaaDoorCDiff
import Derived.Lib.AppendZeros
namespace Go.Proofs.YtoklknjnegpaaaaDoor
open Go.RowKit Gf Cd
/-- A row with no byte, and room. -/
def Room0 (w : World) (e : Ending) (w' : World) : Prop := ∃ v, e = .returned v ∧ w'.ownsRow w.heap.size 5 1 v 0 [] ∧ Below w.heap.size w w'
set_option maxHeartbeats 1000000 in
set_option maxRecDepth 100000 in
theorem grow_nil (n : Nat) (w : World) (hn : n ≤ 100000) : Calls Tryd.prog 98 #[.slice none 0 0, .int .i64 n] w (Room0 w) := by
  by_cases h0 : n = 0
  · subst h0
    go_enter Tryd.func98, Tryd.ntmps98
    go_wp2
    go_ret
    exact ⟨_, rfl, World.ownsRow_nil _ _ _ _, Below.refl _ _⟩
  · obtain ⟨i0, hi0, hz0, hz1, hz2⟩ := info_u8
    have hr := fun ty => Lib.run_append_nil_zeros (P := Tryd.prog) w 24 3 ty 5 i0 (.int .u8 0) .i64 .i64 Tryd.underlying24 Tryd.underlying3 hi0 hz0 n (by omega) (by omega) (by omega) (by rw [hz2]; omega)
    have hc := grownCap_le_maxLen w n 0 5 (by unfold maxLen; omega)
    have hg := grownCap_ge w n 0 5
    have hpos : (0 : Int) < n := by omega
    have HPOST := Lib.hid (show Room0 w (.returned (.slice (some ⟨w.heap.size, 0, none⟩) 0 (grownCap w n 0 5))) (w.drew.alloc (.cells (Builtin.zeroCells (Value.int .u8 0).cells n ++ Builtin.zeroCells (Value.int .u8 0).cells (grownCap w n 0 5 - n)) 5)) from
      ⟨_, rfl, World.ownsRow_made w.drew _ _ (Nat.le_refl _) hc (by rw [Array.size_append, size_zeroCells, size_zeroCells]; show n * 1 + _ * 1 = _; omega), (Below.refl _ w).drew.alloc (by exact Nat.le_refl _) _⟩)
    generalize Builtin.zeroCells (Value.int .u8 0).cells n ++ Builtin.zeroCells (Value.int .u8 0).cells (grownCap w n 0 5 - n) = cs at *
    generalize grownCap w n 0 5 = G at *
    unfold maxLen at hc
    have hgi : (0 : Int) ≤ G := by omega
    clear hi0 hz0 hz1 hz2 h0
    go_enter Tryd.func98, Tryd.ntmps98
    go_wp2_with (at_builtin; refine Lib.wpList_append_run _ rfl _ _ _ _ rfl _ _ rfl rfl _ _ (hr _) ?_)
    all_goals
      go_ret
      exact HPOST.out
theorem flat_next (ls : List (List UInt8)) (j : Nat) (h : j < ls.length) : (ls.take (j + 1)).flatten = (ls.take j).flatten ++ ls.getD j [] := by
  rw [take_next ls j [] h, List.flatten_append]; simp
theorem flat_le (ls : List (List UInt8)) (j : Nat) : (ls.take j).flatten.length ≤ ls.flatten.length := by
  have : ls.flatten = (ls.take j).flatten ++ (ls.drop j).flatten := by rw [← List.flatten_append, List.take_append_drop]
  rw [this, List.length_append]; omega
def RelC1 (ls : List (List UInt8)) (s c : Value) : Prop := ∃ j : Nat, j ≤ ls.length ∧ c = .int .i64 j ∧ s = .int .i64 (ls.take j).flatten.length
def RelC2 (ls : List (List UInt8)) (w : World) (v c : Value) (wr : World) : Prop := ∃ j : Nat, j ≤ ls.length ∧ c = .int .i64 j ∧ wr.ownsRow w.heap.size 5 1 v (ls.take j).flatten.length (bytesV (ls.take j).flatten) ∧ Below w.heap.size w wr
theorem relC2_next {ls : List (List UInt8)} {w wr w2 : World} {v v2 : Value} {j q m : Nat} (hq : (ls.take j).flatten.length = q) (hm : (ls.getD j []).length = m) (hj : j < ls.length) (hb : Below w.heap.size w wr) (ho : wr.ownsRow w.heap.size 5 1 v q (bytesV (ls.take j).flatten))
    (ho2 : w2.ownsRow w.heap.size 5 1 v2 (q + m) (bytesV (ls.take j).flatten ++ bytesV (ls.getD j []))) (hg : Grew wr v.ownBlock w2 v2.ownBlock) : RelC2 ls w v2 (.int .i64 ((j : Int) + 1)) w2 := by
  subst hq hm
  exact ⟨j + 1, by omega, by go_num, by rw [flat_next ls j hj, List.length_append, bytesV_append]; exact ho2, hb.trans (hg.below hb.size fun _ hk => (own_block ho hk).1)⟩
theorem wpList_append_bytes' (w : World) {ops : Array Oper} {rest : List Oper} {o : Oper} {a : Act} {Q : Exit → Act → World → Prop} (hgd : o.guard = none) (s x : Operand)
    (ho : o.op = .call { callee := .builtin .append, args := #[s, x], argTypes := #[24, 24] })
    (base : Nat) (v : Value) (n : Nat) (xs : List Value) (hsv : a.eval s = v) (hown : w.ownsRow base 5 1 v n xs)
    (B m : Nat) (y : Value) (l : List UInt8) (hm : l.length = m) (hx : a.eval x = y) (hs : SlB B w y l) (h63 : n + m ≤ 10000000) (hbase : base ≤ w.heap.size)
    (h : ∀ v' w', w'.ownsRow base 5 1 v' (n + m) (xs ++ bytesV l) → Grew w v.ownBlock w' v'.ownBlock → wpList Tryd.prog ops Q rest (a.put o.dst v') w') : wpList Tryd.prog ops Q (o :: rest) a w := by
  subst hm
  exact wpList_append_bytes w hgd s x ho base v n xs hsv hown B y l hx hs h63 hbase h
set_option maxHeartbeats 1000000 in
set_option maxRecDepth 100000 in
theorem concat_any (B : Nat) (v : Value) (ls : List (List UInt8)) (w : World) (hv : SlBs B w v ls) (hB : B ≤ w.heap.size) (hl : ls.length ≤ 1000) (hf : ls.flatten.length ≤ 10000) : Calls Tryd.prog 87 #[v] w (NewB ls.flatten w) := by
  have HV := Lib.hid hv
  obtain ⟨a1, cap1, rfl, hcap⟩ := hv.len
  clear hv
  go_enter Tryd.func87, Tryd.ntmps87
  go_wp2_with fail
  go_loop [3, 11] (fun s c => RelC1 ls s c) (fun _ c => ls.length - (intOf c).toNat)
  case atStart => exact ⟨0, Nat.zero_le _, rfl, rfl⟩
  case round =>
    obtain ⟨j, hj, rfl, rfl⟩ := hrel
    have h1 := flat_le ls j
    by_cases hlt : j < ls.length
    · obtain ⟨b, o, cap, u, e1, hcap', hbB, hu1, hu2⟩ := HV.out.row hlt
      injection e1 with e1 _ e2
      subst e1 e2
      obtain ⟨a2, c2, rfl, _⟩ := hu2.len
      have h2 := flat_le ls (j + 1)
      have h3 := flat_next ls j hlt
      rw [h3, List.length_append] at h2
      have HN := Lib.hid (congrArg List.length h3)
      rw [List.length_append] at HN
      clear hu2 h3
      generalize (ls.getD j []).length = m at *
      generalize (ls.take j).flatten.length = q at *
      go_wp2_with fail
      go_round
      case rel => exact ⟨j + 1, by omega, by go_num, by rw [HN.out]; go_num⟩
      case measure => simp [intOf]; omega
    · obtain rfl : j = ls.length := by omega
      rw [List.take_length]
      generalize hT : ls.flatten.length = tot at *
      have HT := Lib.hid hT
      have HG := Lib.hid (grow_nil tot w (by omega))
      clear h1 hT
      go_wp2_with fail
      refine HG.out.mono ?_
      rintro e w1 ⟨v1, rfl, hown1, hb1⟩
      have HO1 := Lib.hid hown1
      have HB1 := Lib.hid hb1
      obtain ⟨g1, c1, rfl, _⟩ := own_slice hown1
      clear hown1 hb1
      go_wp2_with fail
      go_loopw [6, 27] (fun v c wr => RelC2 ls w v c wr) (fun _ c _ => ls.length - (intOf c).toNat)
      case atStart => exact ⟨0, Nat.zero_le _, rfl, HO1.out, HB1.out⟩
      case round =>
        obtain ⟨j, hj, rfl, hown, hb⟩ := hrel
        have h1 := flat_le ls j
        by_cases hlt : j < ls.length
        · obtain ⟨b, o, cap, u, e1, hcap', hbB, hu1, hu2⟩ := (HV.out.below (Below.mono hb hB)).row hlt
          injection e1 with e1 _ e2
          subst e1 e2
          obtain ⟨a2, c2, rfl, _⟩ := hu2.len
          have h2 := flat_le ls (j + 1)
          rw [HT.out] at h1 h2
          rw [flat_next ls j hlt, List.length_append] at h2
          have HU := Lib.hid hu2
          have HO := Lib.hid hown
          have HB := Lib.hid hb
          have HSZ := Lib.hid (show (ls.take j).flatten.length + (ls.getD j []).length ≤ 10000000 by omega)
          clear hu2 hown hb h2 h1
          generalize hq : (ls.take j).flatten.length = q at *
          generalize hm : (ls.getD j []).length = m at *
          have HQ := Lib.hid hq
          have HM := Lib.hid hm
          clear hq hm
          obtain ⟨gx, cx, rfl, _⟩ := own_slice HO.out
          go_wp2_with (at_builtin; refine wpList_append_bytes' _ rfl (.tmp 31) (.tmp 32) rfl w.heap.size _ _ _ rfl HO.out B _ _ _ HM.out rfl HU.out HSZ.out HB.out.size ?_; intro v2 w2 hown2 hg2; have HOW := Lib.hid hown2; have HGR := Lib.hid hg2; clear hown2 hg2)
          go_roundw
          case rel => exact relC2_next HQ.out HM.out hlt HB.out HO.out HOW.out HGR.out
          case measure => simp [intOf]; omega
        · obtain rfl : j = ls.length := by omega
          have HO := Lib.hid hown
          have HB := Lib.hid hb
          clear hown hb h1
          go_wp2_with fail
          go_ret
          have hO := HO.out
          rw [List.take_length] at hO
          exact ⟨_, rfl, hO, HB.out⟩
end Go.Proofs.YtoklknjnegpaaaaDoor
