import Derived.Test.YtamonfeniheghaaPkO
namespace Go.Proofs.Ytamonfeniheghaa
open Go.RowKit

end Go.Proofs.Ytamonfeniheghaa
