import Derived.Test.YtbeclgilglepeaaCCalls
import Derived.Test.YtbeclgilglepeaaLSpec
namespace Go.Proofs.Ytbeclgilglepeaa

theorem code_check : CodeCheck := check_calls
theorem code_demand : CodeDemand := fun s t w hs h => demand_calls s t w hs h.1 h.2
end Go.Proofs.Ytbeclgilglepeaa
