import Derived.Test.YtdhofmnidlhjpabCCalls
import Derived.Test.YtdhofmnidlhjpabLSpec
namespace Go.Proofs.Ytdhofmnidlhjpab

theorem code_check : CodeCheck := check_calls
theorem code_demand : CodeDemand := fun s t w hs h => demand_calls s t w hs h.1 h.2
end Go.Proofs.Ytdhofmnidlhjpab
