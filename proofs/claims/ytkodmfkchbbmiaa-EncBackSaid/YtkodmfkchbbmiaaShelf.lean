/- Nothing of the shelf is called. -/
import Derived.Test.YtkodmfkchbbmiaaProg
