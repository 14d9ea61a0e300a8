/- This seat calls nothing of the library's shelf. -/
import Derived.Test.YtldlpbfncgcimaaDoorProg
