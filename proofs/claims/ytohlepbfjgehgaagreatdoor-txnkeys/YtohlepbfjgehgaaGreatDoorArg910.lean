/-
  What is proved here: nothing of its own: the texts on how transactions and pieces come in, together; over this program.
-/
import Derived.Test.YtohlepbfjgehgaaGreatDoorArg9
import Derived.Test.YtohlepbfjgehgaaGreatDoorArg10
