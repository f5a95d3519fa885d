/- Words: ParseWord of the model. -/
import Derived.Test.YtpplojbcjgiabaaL10Q
import Derived.Test.YtpplojbcjgiabaaL10F
namespace Go.Proofs.Ytpplojbcjgiabaa
open Go.RowKit
set_option linter.unusedVariables false
set_option linter.unusedSimpArgs false

theorem iParseWord_ok (k : Int) (s : ByteArray) (w : World) (hl : s.size ≤ 1048576) : Calls Try.prog 17 #[.int .i64 k, .string s] w (MadeC spI (rParseWord k (bytesOf s)) (cParseWord k (bytesOf s)) w) := iParseWord_any k s w hl
end Go.Proofs.Ytpplojbcjgiabaa
