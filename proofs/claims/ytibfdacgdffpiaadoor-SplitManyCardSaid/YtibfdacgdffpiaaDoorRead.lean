/- A head's numbers are read: number, the closure, walk, read. -/
import Derived.Test.YtibfdacgdffpiaaDoorBlk
import Derived.Test.YtibfdacgdffpiaaDoorPkt
import Derived.LoopTactic
import Derived.Test.YtibfdacgdffpiaaDoorBits
namespace Go.Proofs.YtibfdacgdffpiaaDoor.Read
open Go.RowKit Go.Proofs.YtibfdacgdffpiaaDoor.Sums Go.Proofs.YtibfdacgdffpiaaDoor.Mem Go.Proofs.YtibfdacgdffpiaaDoor.Blk Go.Proofs.YtibfdacgdffpiaaDoor.Bits

end Go.Proofs.YtibfdacgdffpiaaDoor.Read
