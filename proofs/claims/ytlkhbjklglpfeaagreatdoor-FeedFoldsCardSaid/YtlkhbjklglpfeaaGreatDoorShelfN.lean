/- The shelf. -/
import Derived.Test.YtlkhbjklglpfeaaGreatDoorShelf
