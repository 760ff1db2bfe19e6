import Derived.Test.YtjalmmdihkcboaaRows

section

end
