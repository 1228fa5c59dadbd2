/- A region whose operations read, and whose callees make memory of their own: one walk of the text's order serves every order. rec's Text. Own work; no statement. -/
import Derived.Test.YtompaldhnbcikaaR3
import Derived.Laws.Concat
import Derived.Lib.QuietBelow
set_option linter.unusedSimpArgs false
set_option linter.unusedVariables false
namespace Go.Proofs.Ytompaldhnbcikaa
open Go.RowKit Go.Sort

theorem app_bytes (a b : List UInt8) : (⟨a.toArray⟩ : ByteArray) ++ ⟨b.toArray⟩ = ⟨(a ++ b).toArray⟩ := by
  apply ByteArray.ext
  simp [ByteArray.data_append]

theorem textL_length {l : List Int} (h : InR l) : (textL l).length ≤ 22 * l.length + 2 := by
  have h1 := numsTo_length h (writtenL l)
  have h2 := writtenL_le l
  unfold textL
  simp
  omega

/-- A record in words. -/
def textR (r : RecD) : ByteArray := (⟨(Lib.itoa r.site).toArray⟩ : ByteArray) ++ ⟨#[58]⟩ ++ ⟨(Lib.itoa r.seq).toArray⟩ ++ ⟨#[32]⟩ ++ ⟨(textL r.dep).toArray⟩ ++ ⟨#[32]⟩ ++ r.key ++ ⟨#[61]⟩ ++ r.val

end Go.Proofs.Ytompaldhnbcikaa
