/- The ciphers' texts behind the sums'. -/
import Derived.Test.YtifmnjpjddefpaaDoorR1
import Derived.Test.YtifmnjpjddefpaaDoorGH
