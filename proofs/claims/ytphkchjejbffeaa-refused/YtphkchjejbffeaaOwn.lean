/- For every pool, script, choice of what is wrong and where, an order that may not be is rejected for its first reason and changes nothing: the law Refused answers true and leaves its arguments as they were. -/
import Derived.Test.YtphkchjejbffeaaG18
namespace Go.Proofs.Ytphkchjejbffeaa

theorem refused_holds : Rows.RefusedSaid := refused_said the_api

end Go.Proofs.Ytphkchjejbffeaa
