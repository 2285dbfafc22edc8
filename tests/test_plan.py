"""Points 5 and 6: plans and their written form."""

import unittest

from lotsandties.errors import BadText, BadValue
from lotsandties.plan import Plan


class PlanTest(unittest.TestCase):
    def test_class_values(self):
        self.assertEqual((Plan.WIDTH, Plan.OWNERS, Plan.LONGEST), (8, 4, 80))
        self.assertEqual((Plan.FREE, Plan.LOGGED, Plan.PLAIN), (0, 1, 2))

    def test_fields(self):
        plan = Plan(24, nodes=5, slots=30)
        self.assertEqual((plan.blocks, plan.nodes, plan.slots), (24, 5, 30))
        self.assertEqual((plan.maps, plan.first_node, plan.first_data), (3, 5, 10))

    def test_map_blocks_for_every_eight_blocks_begun(self):
        for blocks, maps in ((8, 1), (9, 2), (16, 2), (17, 3), (63, 8), (64, 8)):
            plan = Plan(blocks, nodes=2, slots=200)
            self.assertEqual((plan.maps, plan.first_node, plan.first_data), (maps, 2 + maps, 4 + maps))

    def test_places(self):
        plan = Plan(24, nodes=5, slots=30)
        self.assertEqual([plan.map_place(x) for x in (0, 7, 8, 10, 23)], [(2, 0), (2, 7), (3, 0), (3, 2), (4, 7)])
        self.assertEqual([plan.node_block(n) for n in (1, 2, 5)], [5, 6, 9])
        self.assertEqual(plan.data_blocks(), list(range(10, 24)))
        plan.data_blocks().append(24)
        self.assertEqual(plan.data_blocks(), list(range(10, 24)))

    def test_bounds(self):
        for blocks, nodes, slots in ((8, 2, 9), (64, 2, 65), (64, 16, 200), (8, 3, 9), (8, 2, 200), (20, 13, 21)):
            self.assertEqual(Plan(blocks, nodes=nodes, slots=slots).blocks, blocks)
        wrong = ((7, 2, 30), (65, 2, 200), (24, 1, 30), (24, 17, 30), (64, 17, 200), (24, 5, 24), (64, 2, 64),
                 (24, 5, 201), (64, 2, 201), (8, 4, 9), (9, 4, 10), (24, 18, 30), (21, 15, 30), (0, 0, 0), (-8, 2, 3))
        for blocks, nodes, slots in wrong:
            with self.assertRaises(BadValue, msg=(blocks, nodes, slots)):
                Plan(blocks, nodes=nodes, slots=slots)

    def test_two_data_blocks(self):
        self.assertEqual(Plan(9, nodes=3, slots=10).data_blocks(), [7, 8])
        self.assertEqual(Plan(22, nodes=15, slots=30).data_blocks(), [20, 21])
        for blocks, nodes in ((9, 4), (22, 16), (21, 15)):
            with self.assertRaises(BadValue):
                Plan(blocks, nodes=nodes, slots=30)


class WrittenPlanTest(unittest.TestCase):
    def test_written_form(self):
        plan = Plan.read("plan 24 5 30")
        self.assertIsInstance(plan, Plan)
        self.assertEqual((plan.blocks, plan.nodes, plan.slots), (24, 5, 30))
        self.assertEqual(plan.text(), "plan 24 5 30")
        self.assertEqual(Plan(64, nodes=16, slots=200).text(), "plan 64 16 200")

    def test_other_lines(self):
        lines = ("", "plan", "plan 24 5", "plan 24 5 30 1", "Plan 24 5 30", "24 5 30", "plan  24 5 30", " plan 24 5 30",
                 "plan 24 5 30 ", "plan 24 5 030", "plan 24 -5 30", "plan 24 five 30", "plan 24 5 30\n",
                 "plan 1000000000000 5 30", "plan 24 5 1000000000000")
        for line in lines:
            with self.assertRaises(BadText, msg=line):
                Plan.read(line)

    def test_numbers_out_of_bounds(self):
        for line in ("plan 7 5 30", "plan 65 5 200", "plan 24 1 30", "plan 24 17 30", "plan 24 5 24", "plan 24 5 201",
                     "plan 9 4 10", "plan 0 0 0", "plan 999999999999 5 30", "plan 24 5 999999999999"):
            with self.assertRaises(BadValue, msg=line):
                Plan.read(line)


if __name__ == "__main__":
    unittest.main()
