/- The document's Digits. -/
import Derived.Test.YtheobkepoocamaaGreatDoorRef
namespace Go.Proofs.YtheobkepoocamaaGreatDoor
set_option maxRecDepth 100000
open Go.RowKit Sha
attribute [local go_sem 9000] run_bytes1

def lstr (l : List UInt8) : ByteArray := ⟨l.toArray⟩
theorem lstr_size (l : List UInt8) : (lstr l).size = l.length := by show l.toArray.size = _; rw [List.size_toArray]
theorem lstr_append (a b : List UInt8) : lstr a ++ lstr b = lstr (a ++ b) := by
  apply ByteArray.ext
  rw [ByteArray.data_append]
  apply Array.ext'
  rw [Array.toList_append]; rfl
theorem lstr_one (a : UInt8) : (⟨#[a]⟩ : ByteArray) = lstr [a] := rfl
end Go.Proofs.YtheobkepoocamaaGreatDoor
