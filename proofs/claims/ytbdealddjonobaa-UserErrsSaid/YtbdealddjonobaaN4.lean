/-
  One text of several, in their order: First4. By an AI agent; no person has read it.
-/
import Derived.Test.YtbdealddjonobaaN1
/-
  THE CONTRACT of the document's first (letterlockref1) where the text's first byte tells of 4 bytes. By an AI agent; no person has read it.
-/
namespace Go.Proofs.Ytbdealddjonobaa
open Go.RowKit Txt

end Go.Proofs.Ytbdealddjonobaa
