/- The shelf. -/
import Derived.Test.YtfdnlgigllflfaaGreatDoorShelf
