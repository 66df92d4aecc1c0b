/- For every pool, script, cuts and tail that together hold at most 1048576 values and letters: however the bytes are cut, the same goes out and the same rests: the law Chunked answers true and leaves its arguments as they were. -/
import Derived.Test.YtphkchjejbffeaaG18
namespace Go.Proofs.Ytphkchjejbffeaa

theorem chunked_holds : Rows.ChunkedUptoSaid := chunked_said the_api

end Go.Proofs.Ytphkchjejbffeaa
