/- For every list of prices, either side and every limit: an order that takes all meets the others by price, and of one price as they came: the law First answers true and leaves its arguments as they were. -/
import Derived.Test.YtphkchjejbffeaaG19
namespace Go.Proofs.Ytphkchjejbffeaa

theorem first_holds : Rows.FirstSaid := first_said the_api

end Go.Proofs.Ytphkchjejbffeaa
