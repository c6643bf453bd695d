/- Layer 1: both Keyword. -/
import Derived.Test.YtmlkfglnnepjjaaDoorJoin1
namespace Go.Proofs.YtmlkfglnnepjjaaDoor
open Go.RowKit

def kws : List (List UInt8) := [[97, 110, 100], [115, 111, 109, 101], [105, 110], [116, 111], [110, 111, 116, 104, 105, 110, 103], [101, 118, 101, 114, 121, 116, 104, 105, 110, 103], [111, 110, 101], [111, 102], [111, 112, 101, 110], [112, 114, 105, 118, 97, 116, 101], [115, 117, 98], [115, 97, 109, 101], [100, 105, 115, 106, 111, 105, 110, 116], [100, 111, 109, 97, 105, 110], [114, 111, 108, 101], [99, 104, 97, 105, 110], [114, 101, 102, 108, 101, 120, 105, 118, 101], [116, 121, 112, 101], [108, 105, 110, 107], [115, 101, 108, 101, 99, 116], [119, 104, 101, 114, 101], [111, 114]]
def kwB (s : ByteArray) : Bool := kws.any fun x => s.toList == x

set_option maxRecDepth 100000 in
set_option maxHeartbeats 2000000 in
theorem keyword_any (s : ByteArray) (w : World) :
    Calls Tryd.prog 17 #[.string s] w fun e w' => e = .returned (.bool (kwB s)) ∧ w = w' := by
  go_enter Tryd.func17, Tryd.ntmps17
  go_wp2_with fail
  all_goals
    first
      | (exfalso; simp_all; done)
      | (go_ret; exact ⟨ret_bool (by simp [kwB, kws, *]), rfl⟩)

set_option maxRecDepth 100000 in
set_option maxHeartbeats 2000000 in
theorem refKeyword_any (s : ByteArray) (w : World) :
    Calls Tryd.prog 18 #[.string s] w fun e w' => e = .returned (.bool (kwB s)) ∧ w = w' := by
  go_enter Tryd.func18, Tryd.ntmps18
  go_wp2_with fail
  all_goals
    first
      | (exfalso; simp_all; done)
      | (go_ret; exact ⟨ret_bool (by simp [kwB, kws, *]), rfl⟩)
end Go.Proofs.YtmlkfglnnepjjaaDoor
