/- The modules of the library that the texts of this seat lean on, under one name. -/
import Derived.Test.YtakjoodlediemaaChecked
import Derived.WalkKit
import Derived.WalkSpells
import Derived.WalkLawsBesides
import Derived.Handy
import Derived.Lib.Hide
