/- lex: Name, the document's Name; LexNames' walk. -/
import Derived.Test.YthhnfliklegefaaGreatDoorLxM5
import Derived.Test.YthhnfliklegefaaGreatDoorLxM
