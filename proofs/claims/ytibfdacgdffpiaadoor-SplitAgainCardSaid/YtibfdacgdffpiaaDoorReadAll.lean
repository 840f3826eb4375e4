/- A head's numbers are read, all eight. -/
import Derived.Test.YtibfdacgdffpiaaDoorRead
namespace Go.Proofs.YtibfdacgdffpiaaDoor.Read
open Go.RowKit Go.Proofs.YtibfdacgdffpiaaDoor.Sums Go.Proofs.YtibfdacgdffpiaaDoor.Mem Go.Proofs.YtibfdacgdffpiaaDoor.Blk Go.Proofs.YtibfdacgdffpiaaDoor.Bits

end Go.Proofs.YtibfdacgdffpiaaDoor.Read
