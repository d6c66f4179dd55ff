/- The walks of layer 20, and the table out of the listed variable: under one name. -/
import Derived.Test.YtepddieblankpaaDoorCelTab
import Derived.Test.YtepddieblankpaaDoorCelLaw1
import Derived.Test.YtepddieblankpaaDoorCelLaw2
import Derived.Test.YtepddieblankpaaDoorCelLaw3
