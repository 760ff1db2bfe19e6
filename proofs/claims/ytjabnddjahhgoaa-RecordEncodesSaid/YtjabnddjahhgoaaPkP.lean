import Derived.Test.YtjabnddjahhgoaaPkO
namespace Go.Proofs.Ytjabnddjahhgoaa
open Go.RowKit

end Go.Proofs.Ytjabnddjahhgoaa
