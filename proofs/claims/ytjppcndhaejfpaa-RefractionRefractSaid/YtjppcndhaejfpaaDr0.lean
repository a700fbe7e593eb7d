/- A result, and what is made of it: bind. -/
import Derived.Test.YtjppcndhaejfpaaIv2
import Derived.Test.YtjppcndhaejfpaaIv3
import Derived.Test.YtjppcndhaejfpaaIv4
import Derived.Laws.OwnMore
import Derived.Deep.AppendLies
import Derived.Outline
import Derived.RegionTactic
import Derived.Deep.QuietTactic
import Derived.BigQuiet
namespace Go.Proofs.Ytjppcndhaejfpaa.Iv
open Go.RowKit

/-- a result, and what is made of it if it is none of an error -/
def bind (r : R) (f : Int → Int → R) : R := if r.e = 0 then f r.lo r.hi else ⟨0, 0, r.e⟩
theorem bind_ok {r : R} {f : Int → Int → R} (h : r.e = 0) : bind r f = f r.lo r.hi := if_pos h
theorem bind_err {r : R} {f : Int → Int → R} (h : ¬ r.e = 0) : bind r f = ⟨0, 0, r.e⟩ := if_neg h
end Go.Proofs.Ytjppcndhaejfpaa.Iv
