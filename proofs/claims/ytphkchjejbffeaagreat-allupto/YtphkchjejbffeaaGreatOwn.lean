/- For every script that holds at most 1048576 values and letters: bourses beside one another answer each step as the document does, Build among them, and what came out stays its owner's: the law All answers true and leaves its arguments as they were. -/
import Derived.Test.YtphkchjejbffeaaGreatK40
namespace Go.Proofs.YtphkchjejbffeaaGreat
open Go.Proofs.Tryz
section
theorem all_holds :Rows.AllUptoSaid:=all_said
end
end Go.Proofs.YtphkchjejbffeaaGreat
