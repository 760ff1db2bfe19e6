import Derived.Test.YtlajlggoakgmgaaRows

section

end
