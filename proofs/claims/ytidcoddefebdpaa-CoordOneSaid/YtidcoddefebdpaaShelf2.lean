/-
  The shelf's contracts, once more.
-/
import Derived.Test.YtidcoddefebdpaaShelf
import Derived.Shelf.Small.Wraps
import Derived.Shelf.Slices.Equal
import Derived.Shelf.Slices.Empties2
