/- The program's own functions: their contracts lie in BitP1 to BitP9. -/
import Derived.Test.YtfcnodiepdnegaaBitDeck
import Derived.Test.YtfcnodiepdnegaaBitFold
import Derived.Test.YtfcnodiepdnegaaBitParse
import Derived.Test.YtfcnodiepdnegaaBitP6
import Derived.Test.YtfcnodiepdnegaaBitP7
import Derived.Test.YtfcnodiepdnegaaBitP8
import Derived.Test.YtfcnodiepdnegaaBitP9
