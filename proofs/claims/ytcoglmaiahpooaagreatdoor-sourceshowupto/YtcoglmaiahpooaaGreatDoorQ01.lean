/- Texts put together: Ty. -/
import GoSem.Claims
set_option linter.unusedVariables false
set_option linter.unusedSimpArgs false
set_option maxHeartbeats 8000000
namespace Go.Proofs.YtcoglmaiahpooaaGreatDoor
inductive PE where
 | mk (form op kind n:Int) (name part:ByteArray) (at':Int) (kids:List PE)
structure PArg where
 name:ByteArray
 out:Bool
 to:ByteArray
 e:PE
 at':Int
mutual
inductive PS where
 | mk (verb at':Int) (name:ByteArray) (item:Bool) (es:List PE) (args:List PArg) (arms:List PArm) (els body:List PS) (low high by' times:Int)
inductive PArm where
 | mk (e:PE) (labels:List (Int×Int)) (body:List PS)
end
structure PV where
 name:ByteArray
 role:Int
 kind:Int
 of:ByteArray
 low:Int
 len:Int
 init:PE
 at':Int
structure PU where
 kind:Int
 name:ByteArray
 result:Int
 vars:List PV
 body:List PS
 at':Int
end Go.Proofs.YtcoglmaiahpooaaGreatDoor
