/- For every two texts that together hold at most 1048576 letters: Build of them, one after another and again, answers as the document's Build does, and what came out stays its owner's: the law Builds answers true and leaves its arguments as they were. -/
import Derived.Test.YtphkchjejbffeaaG29
namespace Go.Proofs.Ytphkchjejbffeaa

theorem builds_holds : Rows.BuildsUptoSaid := builds_said

end Go.Proofs.Ytphkchjejbffeaa
