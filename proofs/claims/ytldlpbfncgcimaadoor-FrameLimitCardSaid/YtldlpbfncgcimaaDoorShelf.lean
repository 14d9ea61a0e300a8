/- No contract of the library is wanted. -/
import Derived.Test.YtldlpbfncgcimaaDoorProg
