/- For every pool, script, letter and later script, a bourse that was shut stays as it was: the law Shut answers true and leaves its arguments as they were. -/
import Derived.Test.YtphkchjejbffeaaG17
namespace Go.Proofs.Ytphkchjejbffeaa

theorem shut_holds : Rows.ShutSaid := shut_said the_api

end Go.Proofs.Ytphkchjejbffeaa
