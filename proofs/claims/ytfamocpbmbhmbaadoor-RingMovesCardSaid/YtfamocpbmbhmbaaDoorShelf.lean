/- no contracts of the library are laid here -/
import Derived.Test.YtfamocpbmbhmbaaDoorProg
