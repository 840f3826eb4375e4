/- A head's numbers are read: number, the closure, walk, read. -/
import Derived.Test.YtnpggkpcadefjaaDoorBlk
import Derived.Test.YtnpggkpcadefjaaDoorM16
import Derived.Test.YtnpggkpcadefjaaDoorBits
import Derived.LoopTactic
namespace Go.Proofs.YtnpggkpcadefjaaDoor.Read
open Go.RowKit Go.Proofs.YtnpggkpcadefjaaDoor.Sums Go.Proofs.YtnpggkpcadefjaaDoor.Mem Go.Proofs.YtnpggkpcadefjaaDoor.Blk Go.Proofs.YtnpggkpcadefjaaDoor.Bits

end Go.Proofs.YtnpggkpcadefjaaDoor.Read

/- A head's numbers are read, all eight. -/
namespace Go.Proofs.YtnpggkpcadefjaaDoor.Read
open Go.RowKit Go.Proofs.YtnpggkpcadefjaaDoor.Sums Go.Proofs.YtnpggkpcadefjaaDoor.Mem Go.Proofs.YtnpggkpcadefjaaDoor.Blk Go.Proofs.YtnpggkpcadefjaaDoor.Bits

end Go.Proofs.YtnpggkpcadefjaaDoor.Read

