/- For every pool and script: the books that are built out of the whole tape are those that there are, in the same order: the law Taped answers true and leaves its arguments as they were. -/
import Derived.Test.YtphkchjejbffeaaGreatG24
namespace Go.Proofs.YtphkchjejbffeaaGreat

theorem taped_holds : Rows.TapedSaid := taped_said the_api

end Go.Proofs.YtphkchjejbffeaaGreat
