/- What the code's index is: its contracts, gathered. -/
import Derived.Test.YtelbignfecjjhaaIxCodeC
import Derived.Test.YtelbignfecjjhaaIxCodeD
import Derived.Test.YtelbignfecjjhaaIxCodeE
import Derived.Test.YtelbignfecjjhaaWithin
namespace Go.Proofs.Ytelbignfecjjhaa
end Go.Proofs.Ytelbignfecjjhaa
