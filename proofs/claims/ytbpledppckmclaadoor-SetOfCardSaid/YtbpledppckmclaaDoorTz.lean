/- What math/bits.TrailingZeros64 answers for any set that is not empty, where the library's table lies as its initialiser lays it. -/
import Derived.Test.YtbpledppckmclaaDoorAll
import Derived.Test.YtbpledppckmclaaDoorMathc
namespace Go.Proofs.YtbpledppckmclaaDoor
open Go.ChangeShapes Go.WideShapes Go.ChangeAt Go.RowKit

/-- The library's table lies in its variable. -/
def TabAt (w : World) : Prop := ∀ j, j < 64 → w.cell? ⟨0, j, none⟩ = some (.int .u8 (Lib.deBruijn64tab.getD j 0))
theorem tab_later {w w' : World} (hb : Below w.heap.size w w') (h : TabAt w) : TabAt w' := fun j hj => cell_later hb (h j hj)

theorem tz_key (x a : Nat) (h0 : x ≠ 0) (hx : x < 18446744073709551616) (ha : x &&& (18446744073709551616 - x) = a) :
    IntKind.u64.wrap (bits BinOp.and IntKind.u64 (x : Int) (IntKind.u64.wrap (-(x : Int))) * 285870213051353865) / 288230376151711744 = ((a * 285870213051353865 % 18446744073709551616 / 288230376151711744 : Nat) : Int) := by
  have e : IntKind.u64.wrap (-(x : Int)) = ((18446744073709551616 - x : Nat) : Int) := by rw [IntKind.wrap_u64]; omega
  rw [e, bits_and_u64_nat x _ hx (by omega), ha, show ((a : Nat) : Int) * 285870213051353865 = ((a * 285870213051353865 : Nat) : Int) by omega, u64_nat]
  omega
theorem tz_in (x k idx : Nat) (w : World) (hx0 : ((x : Int) == 0) = false)
    (key : IntKind.u64.wrap (bits BinOp.and IntKind.u64 (x : Int) (IntKind.u64.wrap (-(x : Int))) * 285870213051353865) / 288230376151711744 = (idx : Int))
    (hi : idx < 64) (hk : k < 64) (hc : w.cell? ⟨0, idx, none⟩ = some (.int .u8 k)) :
    Calls Tryd.prog 23 #[.int .u64 x] w fun e w' => e = .returned (.int .i64 k) ∧ w = w' := by
  go_enter Tryd.func23, Tryd.ntmps23
  go_wp2_with (simp only [key])
  go_ret
  exact ⟨rfl, rfl⟩
theorem tz_any (x : Nat) (w : World) (h0 : x ≠ 0) (hx : x < 18446744073709551616) (hT : TabAt w) :
    Calls Tryd.prog 23 #[.int .u64 x] w fun e w' => e = .returned (.int .i64 (Lib.ctz 64 x)) ∧ w = w' := by
  obtain ⟨hl, hk⟩ := Lib.lowest_bit 64 x h0 hx
  obtain ⟨hi, ht⟩ := Lib.deBruijn64_at _ hk
  have hc := hT _ hi
  rw [ht] at hc
  exact tz_in x _ _ w (by simp; omega) (tz_key x _ h0 hx hl) hi hk hc
end Go.Proofs.YtbpledppckmclaaDoor
