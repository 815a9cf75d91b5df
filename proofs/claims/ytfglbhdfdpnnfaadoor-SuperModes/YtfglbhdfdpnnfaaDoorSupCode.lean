/- super's functions by their contracts, gathered. -/
import Derived.Test.YtfglbhdfdpnnfaaDoorSucC
import Derived.Test.YtfglbhdfdpnnfaaDoorSucD
