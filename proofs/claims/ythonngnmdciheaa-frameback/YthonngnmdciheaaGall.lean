/- Good whole; the reference's Good. -/
import Derived.Test.YthonngnmdciheaaGa
import Derived.Test.YthonngnmdciheaaGb
import Derived.Test.YthonngnmdciheaaGc
import Derived.Test.YthonngnmdciheaaGd
namespace Go.Proofs.Ythonngnmdciheaa
open Go.RowKit
set_option linter.unusedVariables false
theorem fgood_any (f : Fr) (hf : f.Fit) (A : Option Addr) (c : Nat) (w : World) : Calls Try.prog 13 #[.agg #[.int .u64 (f.dst : Int), .int .u64 (f.src : Int), .bool f.tag, .int .i64 f.prio, .int .i64 f.vid, .int .i64 f.kind, .slice A f.bs.length c]] w fun e w' => e = .returned (.bool (goodF f)) ∧ Below w.heap.size w w' := by
  cases h1 : placesF f
  · exact fgood_1 f hf A c w h1
  · cases h2 : tagF f
    · exact fgood_2 f hf A c w h1 h2
    · cases h3 : kindF f.kind
      · exact fgood_3 f hf A c w h1 h2 h3
      · exact fgood_4 f hf A c w h1 h2 h3
end Go.Proofs.Ythonngnmdciheaa
