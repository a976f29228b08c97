/-
  (No contract of the sort is wanted at this program.)
-/
import Derived.Test.YtahlilhdiklemaaProg
