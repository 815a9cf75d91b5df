/- slab by its contracts: sbits_sl (SlbA), swrite_rd (SlbB), sread_own (SlbC). -/
import Derived.Test.YtfnnelkipdajiaaDoorSlbC
