/-  -/
import Derived.Test.YtfkiajidcbefjaaGreatDoorSWp01
import Derived.Test.YtfkiajidcbefjaaGreatDoorSWp05
