"""The examples of the document for the modules that are written."""

import unittest

from shownwrites.bodies import Body
from shownwrites.regions import Region
from shownwrites.tables import Table

ORDERS = Table("orders", ["id", "buyer"], ["id"])
BUYERS = Table("buyers", ["id", "city"], ["id"])
BODY = Body([ORDERS, BUYERS], [("orders.buyer", "buyers.id")], [("buyers.id", ">", 0)])


class Examples(unittest.TestCase):
    def test_regions(self):
        region = Region(0, 9, [0, 4, 12]) & Region.of("<", 8)
        self.assertEqual([region.low, region.high, region.without, region.size, str(region)],
                         [1, 7, (4,), 6, "1..7 but 4"])

    def test_bodies(self):
        self.assertEqual([BODY.classes, BODY.head("buyers.id"), str(BODY.region("orders.buyer"))],
                         [(("orders.id",), ("orders.buyer", "buyers.id"), ("buyers.city",)),
                          "orders.buyer", "1.."])
        self.assertEqual([BODY.heads_of("buyers"), BODY.key_heads("buyers"), BODY.fixed("buyers.city")],
                         [("orders.buyer", "buyers.city"), ("orders.buyer",), None])


if __name__ == "__main__":
    unittest.main()
