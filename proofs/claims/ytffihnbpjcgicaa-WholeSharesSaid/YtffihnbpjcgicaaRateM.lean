/- frac.Rate and frac.Mode: as FracA has them. -/
import Derived.Test.YtffihnbpjcgicaaFracA
