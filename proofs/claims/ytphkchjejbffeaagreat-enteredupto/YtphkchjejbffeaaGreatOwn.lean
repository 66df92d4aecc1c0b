/- For every script that holds at most 1048576 values and letters: bourses beside one another answer each step without replace messages as the document does, and what came out stays its owner's: the law Entered answers true and leaves its arguments as they were. -/
import Derived.Test.YtphkchjejbffeaaGreatK32
namespace Go.Proofs.YtphkchjejbffeaaGreat
open Go.Proofs.Tryz
section
theorem entered_holds :Rows.EnteredUptoSaid:=entered_said
end
end Go.Proofs.YtphkchjejbffeaaGreat
