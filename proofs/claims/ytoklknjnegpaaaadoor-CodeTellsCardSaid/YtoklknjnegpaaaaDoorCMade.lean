/-
  stavelaw4.made: k blocks as long, of bytes.
-/
import Derived.Test.YtoklknjnegpaaaaDoorCStat
namespace Go.Proofs.YtoklknjnegpaaaaDoor
open Go.RowKit Gf Cd
/-- Byte x of block i. -/
def mb (size : Nat) (bl : List UInt8) (i x : Nat) : Nat := if 0 < bl.length then ((bl.getD ((i * size + x) % bl.length) 0).toNat + i) % 256 else 0
theorem mb_lt (size : Nat) (bl : List UInt8) (i x : Nat) : mb size bl i x < 256 := by unfold mb; split <;> omega
def madeL (k size : Nat) (bl : List UInt8) : List (List UInt8) := tabL k fun i => tab size (mb size bl i)
theorem madeL_length (k size : Nat) (bl : List UInt8) : (madeL k size bl).length = k := tabL_length ..
theorem madeL_getD {k size i : Nat} {bl : List UInt8} (h : i < k) : (madeL k size bl).getD i [] = tab size (mb size bl i) := tabL_getD _ h
theorem tabL_succ (n : Nat) (f : Nat → List UInt8) : tabL (n + 1) f = tabL n f ++ [f n] := by unfold tabL; rw [List.range_succ, List.map_append]; rfl
theorem wpList_append_row (w : World) {ops : Array Oper} {rest : List Oper} {o : Oper} {a : Act} {Q : Exit → Act → World → Prop} (hgd : o.guard = none) (s x : Operand)
    (ho : o.op = .call { callee := .builtin .append, args := #[s, x], argTypes := #[53, 53] })
    (base : Nat) (v : Value) (n : Nat) (xs : List Value) (hsv : a.eval s = v) (hown : w.ownsRow base 24 1 v n xs)
    (b : Nat) (u : Value) (hx : a.eval x = .slice (some ⟨b, 0, none⟩) 1 1) (hb : w.cell? ⟨b, 0, none⟩ = some u) (hu : u.oneCell' = true) (h63 : n + 1 ≤ 100000) (hbase : base ≤ w.heap.size)
    (h : ∀ v' w', w'.ownsRow base 24 1 v' (n + 1) (xs ++ [u]) → Grew w v.ownBlock w' v'.ownBlock → wpList Tryd.prog ops Q rest (a.put o.dst v') w') : wpList Tryd.prog ops Q (o :: rest) a w := by
  refine wpList_plain hgd fun K hK => ?_
  have := step_append_row w (ops := ops) (K := K) (Q := Q) (E := True) hgd s x ho base v n xs hsv hown b u hx hb hu h63 hbase (fun v' w' h1 h2 => hK _ _ (h v' w' h1 h2))
  rwa [if_pos (show Region.wanted o (yielded ops a.tmps) = true by simp [Region.wanted, hgd])] at this
/-- New blocks. -/
def NewLs (ls : List (List UInt8)) (w : World) (e : Ending) (w' : World) : Prop := ∃ v us, e = .returned v ∧ OwnLs w.heap.size w' v us ls ∧ Below w.heap.size w w'
def RelMa (k size : Nat) (bl : List UInt8) (w : World) (v c : Value) (wr : World) : Prop := ∃ (i : Nat) (us : List Value), i ≤ k ∧ c = .int .i64 i ∧ OwnLs w.heap.size wr v us (tabL i fun i => tab size (mb size bl i)) ∧ Below w.heap.size w wr
def RelMi (size : Nat) (f : Nat → Nat) (wo : World) (c : Value) (wr : World) : Prop := ∃ x : Nat, x ≤ size ∧ c = .int .i64 x ∧ wr.ownsRow wo.heap.size 5 1 (.slice (some ⟨wo.heap.size, 0, none⟩) size size) size (bytesV (tab size fun y => if y < x then f y else 0)) ∧ Below wo.heap.size wo wr
theorem relMi_next {size x z : Nat} {f : Nat → Nat} {wo wr : World} (hx : x < size) (hf : f x = z) (hz : z < 256) (ho : wr.ownsRow wo.heap.size 5 1 (.slice (some ⟨wo.heap.size, 0, none⟩) size size) size (bytesV (tab size fun y => if y < x then f y else 0))) (hb : Below wo.heap.size wo wr) : RelMi size f wo (.int .i64 ((x : Int) + 1)) (wr.setCell ⟨wo.heap.size, x, none⟩ (.int .u8 z)) := by
  have := own_set ho x (.int .u8 z)
  rw [tab_set (g := fun y => if y < x + 1 then f y else 0) (i := x) (x := z) hz (fun y _ hy => by simp only [show y < x + 1 ↔ y < x by omega]) (by simp only [show x < x + 1 by omega, if_pos]; exact hf)] at this
  exact ⟨x + 1, by omega, by go_num, this, hb.setCell (Nat.le_refl _) _⟩
theorem relMi_zero {size x : Nat} {f : Nat → Nat} {wo wr : World} (hx : x < size) (hf : f x = 0) (ho : wr.ownsRow wo.heap.size 5 1 (.slice (some ⟨wo.heap.size, 0, none⟩) size size) size (bytesV (tab size fun y => if y < x then f y else 0))) (hb : Below wo.heap.size wo wr) : RelMi size f wo (.int .i64 ((x : Int) + 1)) wr := by
  refine ⟨x + 1, by omega, by go_num, ?_, hb⟩
  rw [tab_congr (g := fun y => if y < x then f y else 0) fun y _ => ?_]
  · exact ho
  · by_cases e : y = x
    · subst e; rw [if_pos (by omega), if_neg (by omega), hf]
    · simp only [show y < x + 1 ↔ y < x by omega]
theorem relMa_next {k size i : Nat} {bl : List UInt8} {w wo wr w2 : World} {v v2 : Value} {us : List Value} {o : Obj} (hi : i < k) (hO : OwnLs w.heap.size wo v us (tabL i fun i => tab size (mb size bl i))) (hb : Below w.heap.size w wo)
    (hp : wr.ownsRow wo.heap.size 5 1 (.slice (some ⟨wo.heap.size, 0, none⟩) size size) size (bytesV (tab size (mb size bl i)))) (hb2 : Below wo.heap.size wo wr)
    (ho2 : w2.ownsRow w.heap.size 24 1 v2 (i + 1) (us ++ [.slice (some ⟨wo.heap.size, 0, none⟩) size size])) (hg : Grew (wr.alloc o) v.ownBlock w2 v2.ownBlock) : RelMa k size bl w v2 (.int .i64 ((i : Int) + 1)) w2 := by
  have hp' : wr.ownsRow wo.heap.size 5 1 (.slice (some ⟨wo.heap.size, 0, none⟩) size size) (tab size (mb size bl i)).length (bytesV (tab size (mb size bl i))) := by rw [tab_length]; exact hp
  have hO2 := hO.snoc_new hb.size hb2 hp' (one_below wr o) (by rw [tabL_length]; exact ho2) hg
  rw [← tabL_succ i (fun i => tab size (mb size bl i))] at hO2
  refine ⟨i + 1, _, by omega, by go_num, hO2, ?_⟩
  have h1 : Below w.heap.size w (wr.alloc o) := balloc (bthen hb hb2) o
  exact h1.trans (hg.below h1.size fun q hq => (own_block hO.top hq).1)
set_option maxHeartbeats 2000000 in
set_option maxRecDepth 100000 in
theorem made_any (B k size : Nat) (v : Value) (bl : List UInt8) (w : World) (hv : SlB B w v bl) (hB : B ≤ w.heap.size) (hk : k ≤ 8) (hsz : size ≤ 12) (hbl : bl.length ≤ 9223372036854775807) : Calls Tryd.prog 31 #[.int .i64 k, .int .i64 size, v] w (NewLs (madeL k size bl) w) := by
  have HV := Lib.hid hv
  obtain ⟨a1, cap1, rfl, hcap⟩ := hv.len
  have hmk := make_u8 size (by omega)
  clear hv
  go_enter Tryd.func31, Tryd.ntmps31
  go_wp2_with fail
  go_loopw [7, 8] (fun v c wr => RelMa k size bl w v c wr) (fun _ c _ => k - (intOf c).toNat)
  case atStart => exact ⟨0, [], Nat.zero_le _, rfl, ownLs_nil _ _, Below.refl _ _⟩
  case round =>
    obtain ⟨i, us, hi, rfl, hO, hb⟩ := hrel
    have HO := Lib.hid hO
    have HB := Lib.hid hb
    by_cases hlt : i < k
    · clear hO hb
      obtain ⟨wo, rfl⟩ : ∃ wo : World, wo = wr := ⟨_, rfl⟩
      have HMO := Lib.hid (made_own wo wo.heap.size size (Nat.le_refl _) (by omega))
      have hsl := HO.out.slice
      rw [tabL_length] at hsl
      obtain ⟨gx, cx, rfl, _⟩ := hsl
      go_wp2_with fail
      go_loopw [20] (fun c wr => RelMi size (mb size bl i) wo c wr) (fun c _ => size - (intOf c).toNat)
      case atStart => exact ⟨0, Nat.zero_le _, rfl, by have := HMO.out; rw [zeros_tab] at this; rw [tab_congr (g := fun _ => 0) fun i _ => by rw [if_neg (by omega)]]; exact this, one_below _ _⟩
      case round =>
        obtain ⟨x, hx, rfl, hown, hb2⟩ := hrel
        clear hmk
        by_cases hxl : x < size
        · have hlen : x < (bytesV (tab size fun y => if y < x then mb size bl i y else 0)).length := by rw [bytesV_length, tab_length]; exact hxl
          have c1 := own_cell hown (List.getElem?_eq_getElem hlen)
          have c2 := own_frozen hown x
          have HOW := Lib.hid hown
          have HB2 := Lib.hid hb2
          generalize (bytesV (tab size fun y => if y < x then mb size bl i y else 0))[x] = cv at c1
          clear hown hlen
          by_cases h0 : 0 < bl.length
          · have hr : (i * size + x) % bl.length < bl.length := Nat.mod_lt _ h0
            have hq : i * size ≤ 96 := Nat.le_trans (Nat.mul_le_mul (show i ≤ 8 by omega) hsz) (by omega)
            obtain ⟨b, o, cap, e1, hc⟩ := (HV.out.below (Below.mono HB.out hB)).byte (Nat.le_trans hB HB.out.size) hb2 hr
            injection e1 with e1 _ e2
            subst e1 e2
            have HMB := Lib.hid (show mb size bl i x = ((bl.getD ((i * size + x) % bl.length) 0).toNat + i) % 256 by unfold mb; rw [if_pos h0])
            have hqi : (i : Int) * (size : Int) = ((i * size : Nat) : Int) := by simp
            have hm1 : (((i * size : Nat) : Int) + (x : Int)).tmod (bl.length : Int) = (((i * size + x) % bl.length : Nat) : Int) := by
              rw [Int.tmod_eq_emod_of_nonneg (by omega), ← Int.natCast_add]; exact (Int.natCast_emod _ _).symm
            have hm2 : (((i * size : Nat) : Int) + (x : Int)) % (bl.length : Int) = (((i * size + x) % bl.length : Nat) : Int) := by rw [← Int.natCast_add]; exact (Int.natCast_emod _ _).symm
            have h08 : (bl.getD ((i * size + x) % bl.length) 0).toNat < 256 := UInt8.toNat_lt _
            generalize (bl.getD ((i * size + x) % bl.length) 0).toNat = y at *
            generalize (i * size + x) % bl.length = r at *
            generalize i * size = q at *
            have hw1 : IntKind.u8.wrap (i : Int) = i := wrap8 i (by omega)
            have hw2 : IntKind.u8.wrap ((y : Int) + (i : Int)) = (((y + i) % 256 : Nat) : Int) := by rw [IntKind.wrap_u8]; omega
            have hzl : (y + i) % 256 < 256 := by omega
            generalize (y + i) % 256 = z at *
            have hl' : (0 : Int) < bl.length := by omega
            have hr' : (r : Int) < bl.length := by omega
            have HQI := Lib.hid hqi
            clear hb2
            go_wp2_with fail
            go_roundw
            case rel => exact relMi_next hxl HMB.out hzl HOW.out HB2.out
            case measure => simp [intOf]; omega
          · have HMB := Lib.hid (show mb size bl i x = 0 by unfold mb; rw [if_neg h0])
            have h0' : ¬ (0 : Int) < bl.length := by omega
            clear hb2
            go_wp2_with fail
            go_roundw
            case rel => exact relMi_zero hxl HMB.out HOW.out HB2.out
            case measure => simp [intOf]; omega
        · obtain rfl : x = size := by omega
          have hown' := hown
          rw [tab_congr (g := mb x bl i) fun y hy => if_pos hy] at hown'
          have HP := Lib.hid hown'
          have HB2 := Lib.hid hb2
          have HTOP := Lib.hid (fun o => show (wr.alloc o).ownsRow w.heap.size 24 1 (.slice gx i cx) i us by have := own_below HO.out.top (balloc hb2 o); rwa [tabL_length] at this)
          have HS1 := Lib.hid (show i + 1 ≤ 100000 by omega)
          have HS2 := Lib.hid (fun o => show w.heap.size ≤ (wr.alloc o).heap.size from (bthen HB.out (balloc hb2 o)).size)
          clear hown hown' hb2
          go_wp2_with (at_builtin; refine wpList_append_row _ rfl (.tmp 44) (.tmp 46) rfl w.heap.size _ _ us rfl (HTOP.out _) _ (.slice (some ⟨wo.heap.size, 0, none⟩) x x) rfl (new_cells _ _ _ _ _ rfl) rfl HS1.out (HS2.out _) ?_; intro v2 w2 hown2 hg2; have HOW := Lib.hid hown2; have HGR := Lib.hid hg2; clear hown2 hg2)
          go_roundw
          case rel => exact relMa_next hlt HO.out HB.out HP.out HB2.out HOW.out HGR.out
          case measure => simp [intOf]; omega
    · obtain rfl : i = k := by omega
      obtain ⟨gx, cx, rfl, _⟩ := hO.slice
      clear hO hb
      go_wp2_with fail
      go_ret
      exact ⟨_, us, rfl, HO.out, HB.out⟩
end Go.Proofs.YtoklknjnegpaaaaDoor
