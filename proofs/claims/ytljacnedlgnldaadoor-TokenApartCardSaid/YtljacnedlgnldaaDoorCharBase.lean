/-
  WHAT NUMBERS AND NUMERALS STAND ON: letters and texts where the dump has them, else the walk's words alone.
-/
import Derived.Test.YtljacnedlgnldaaDoorProg
import Derived.Test.YtljacnedlgnldaaDoorCharPlain
import Derived.WalkKit
import Derived.WalkMore
import Derived.Below
import Derived.Lib.Hide
import Derived.LoopTactic
import Derived.Laws.IdiomStrings
import Derived.Laws.MakeOwn
import Derived.Laws.OwnMore
