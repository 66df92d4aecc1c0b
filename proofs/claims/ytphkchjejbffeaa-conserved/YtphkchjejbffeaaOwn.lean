/- For every pool and script: of each token that was accepted the shares are those that were executed, canceled, and that rest, or that it had when it was replaced; of each match as many are bought as sold: the law Conserved answers true and leaves its arguments as they were. -/
import Derived.Test.YtphkchjejbffeaaG20
namespace Go.Proofs.Ytphkchjejbffeaa

theorem conserved_holds : Rows.ConservedSaid := conserved_said the_api

end Go.Proofs.Ytphkchjejbffeaa
