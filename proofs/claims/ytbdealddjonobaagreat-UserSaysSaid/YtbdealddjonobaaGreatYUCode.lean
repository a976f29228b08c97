/-
  UCode. By an AI agent.
-/
import Derived.Test.YtbdealddjonobaaGreatYZ
import Derived.Test.YtbdealddjonobaaGreatYUCCreate
import Derived.Test.YtbdealddjonobaaGreatYUCRevoke
import Derived.Test.YtbdealddjonobaaGreatYUCCopy
namespace Go.Proofs.YtbdealddjonobaaGreat.Usr
open Go Go.RowKit Wire Rig Draw

theorem userok : UserOK DU where
  old := du_old
  sub := du_sub
  keep := du_keep
  no N sd w _ _ hn := new_no N sd w hn
  new N sd w _ hs hn := new_yes N sd w hs hn
  name _ a S M u w h _ _ := name_c a S M u w h
  secret _ a S M u w h _ _ := secret_c a S M u w h
  pub _ a S M u w h _ _ := pub_c a S M u w h
  create n a S M u F w h f hn hF := create_c n a S M u F w h f hn hF
  grant n a S M u F W b w h f hn hF hW := grant_c n a S M u F W b w h f hn hF hW
  revoke n a S M u F W w h f hn hF hW := revoke_c n a S M u F W w h f hn hF hW
  remove n a S M u F w h f hn hF := remove_c n a S M u F w h f hn hF
  own n a S M u F w h f hn hF := own_c n a S M u F w h f hn hF
  files n a S M u w h f hn := files_c n a S M u w h f hn
  copy n a S M u w h f hn := copy_c n a S M u w h f hn
end Go.Proofs.YtbdealddjonobaaGreat.Usr

