/-
  A text copied, however long it may be.
-/
import Derived.Test.YtdncofkjncanfaaGreatDoorUM
