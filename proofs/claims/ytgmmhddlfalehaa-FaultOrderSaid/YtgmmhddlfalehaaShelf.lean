/- none of the shelf is called. -/
import Derived.Test.YtgmmhddlfalehaaProg
