/- Nothing of the library is called by contract here. -/
import Derived.Test.YtlkciinhhagjiaaDoorProg
