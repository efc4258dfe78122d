/- DecodeLiteral. -/
import Derived.Test.YtkfgfbdalkifjaaDoorwLLit
import Derived.Test.YtkfgfbdalkifjaaDoorwLit
namespace Go.Proofs.YtkfgfbdalkifjaaDoor
set_option linter.unusedVariables false
open Go.RowKit Go.ChangeShapes
theorem lit_ok : LitOk := fun w ad n cap c v l hC hb hcap hn hbig h hk hl => lit_any hC.1 hb hcap hn hbig h hk hl
theorem literal_u {w : World} (hG : Glb w) {ad : Option Addr} {n cap : Nat} {c : Nat → Int} (hC : Ch c n) (hb : BC w ad n c) (hcap : n ≤ cap) (hbig : cap ≤ 9223372036854775807)
    {A : Option Addr} {m C : Nat} {l : List U3} (hm : l.length = m) (hv : US w (.slice A m C) l) (hmm : m ≤ maxLen) (hnm : n ≤ maxLen) :
    Calls Tryd.prog 7 #[.slice ad n cap, .slice A m C] w fun ev w' => ev = .returned (.bool true) ∧ Below w.heap.size w w' :=
  literal_lawG lit_ok txt_ok (awake_any w hG) hG.1 hC hb hcap hbig hm hv hmm hnm
end Go.Proofs.YtkfgfbdalkifjaaDoor
