/- The shelf. -/
import Derived.Test.YtkphklmgbdljiaaGreatDoorShelf
