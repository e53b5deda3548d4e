/-
  PACKAGE field KEEPS WHAT IT OWES: each contract of FieldOk, of its code. Conditions: none.
-/
import Derived.Test.YteombilmndlhjaaFieldFace
import Derived.Test.YteombilmndlhjaaFieldA
import Derived.Test.YteombilmndlhjaaFieldBytes
import Derived.Test.YteombilmndlhjaaFieldS
import Derived.Test.YteombilmndlhjaaFieldInv
namespace Go.Proofs.Yteombilmndlhjaa
open Go.RowKit

theorem field_ok : FieldOk Fl where
  len := Fl.len
  one := Fl.one
  lt := Fl.lt
  from_ := ffrom_any
  bytes_ := fbytes_any
  add_ := fun K L m n w => fadd_any K L m n w
  sub_ := fun K L m n w => fsub_any K L m n w
  mul_ := fun K L m n w => fmul_any K L m n w
  square_ := fsquare_any
  times_ := fun K m n w => ftimes_any K m n w
  invert_ := finvert_any
  swap_ := fun b K L m n w => fswap_any b K L m n w

end Go.Proofs.Yteombilmndlhjaa
