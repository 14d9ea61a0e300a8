/- This seat calls nothing of the shelf. -/
import Derived.Test.YtmcbanplpgooeaaDoorProg
