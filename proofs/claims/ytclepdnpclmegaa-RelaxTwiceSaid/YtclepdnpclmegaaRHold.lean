/- A row's state, as a drawn region holds it. -/
import Derived.Test.YtclepdnpclmegaaXAwake
namespace Go.Proofs.Ytclepdnpclmegaa
open Go.ChangeShapes Go.WideShapes Go.ChangeAt Go.RowKit

/-- The cells of a state on a row, as a region holds them. -/
def cellsR (b o : Nat) (s : Sta) : List (Addr × Value) := [(⟨b, o, none⟩, .int .i64 s.pos), (⟨b, o + 1, none⟩, .int .i64 s.car), (⟨b, o + 2, none⟩, .int .i64 s.time), (⟨b, o + 3, none⟩, .int .i64 s.load), (⟨b, o + 4, none⟩, .int .i64 s.first), (⟨b, o + 5, none⟩, .int .u64 s.must), (⟨b, o + 6, none⟩, .int .u64 s.may), (⟨b, o + 7, none⟩, .int .u64 s.on)]
theorem holds_row {w : World} {b o : Nat} {s : Sta} (h : StAt w b o s) : Holds (cellsR b o s) w := ⟨h.1, h.2.1, h.2.2.1, h.2.2.2.1, h.2.2.2.2.1, h.2.2.2.2.2.1, h.2.2.2.2.2.2.1, h.2.2.2.2.2.2.2, trivial⟩
theorem lows_R {M b o : Nat} {s : Sta} (hb : b < M) : Lows M (cellsR b o s) := ⟨hb, hb, hb, hb, hb, hb, hb, hb, trivial⟩
theorem arow_lt {w : World} {b off n cap : Nat} {l : List Sta} (h : ARow w (.slice (some ⟨b, off, none⟩) n cap) l) (i : Nat) (s : Sta) (hi : l[i]? = some s) : b < w.heap.size := by
  have h1 := (arow_here h i s hi).1
  exact World.block_lt_of_cell? w _ h1
end Go.Proofs.Ytclepdnpclmegaa
