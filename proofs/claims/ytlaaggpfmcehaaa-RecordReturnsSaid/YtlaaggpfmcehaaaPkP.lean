import Derived.Test.YtlaaggpfmcehaaaPkO
namespace Go.Proofs.Ytlaaggpfmcehaaa
open Go.RowKit

end Go.Proofs.Ytlaaggpfmcehaaa
