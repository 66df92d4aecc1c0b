/- For every pool and every script of acts, the books of the bourse never cross: the law Uncrossed answers true and leaves its arguments as they were. -/
import Derived.Test.YtphkchjejbffeaaG17
namespace Go.Proofs.Ytphkchjejbffeaa

theorem uncrossed_holds : Rows.UncrossedSaid := uncrossed_said the_api

end Go.Proofs.Ytphkchjejbffeaa
