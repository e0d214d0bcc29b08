"""Point 41: the short form of the solvers, by states that hold only a few vectors."""

from lastrows.energy import EnergySolver
from lastrows.errors import BadWay
from lastrows.matrices import Matrix
from lastrows.measures import Measure
from lastrows.solvers import LeastSolver
from lastrows.states import State, advance, first_state
from lastrows.tasks import Task
from lastrows.vectors import Vector
from tests.support import (Case, cycle, described, diagonal, entries, minus, plus, slow_dot, slow_times, some_measure,
                           some_task, some_vector, source, table)
from tests.test_energy import energetic

LEAST = Task.read("2 1 0; 1 3 1; 0 1 4 | 1 0 0 | plain")


def slow_advance(task, state, keep, way):
    """Returns answer, residual and kept vectors of the next state as fractions, by the sums of point 41."""
    rows, weights = table(task.matrix), table(task.measure.matrix)
    kept, residual = [entries(vector) for vector in state.kept], entries(state.residual)
    last = kept[-1]
    image = slow_times(rows, last)
    beyond = slow_times(rows, image)

    def share(upper, vector):
        """Returns the quotient of the dots by which the two ways take a part of a vector away."""
        times = slow_times(rows, vector)
        mark = times if way == "least" else vector
        return slow_dot(weights, upper, mark) / slow_dot(weights, times, mark)

    width = share(residual, last)
    following = image
    for vector in kept:
        if any(vector):
            following = plus(following, vector, -share(beyond, vector))
    return plus(entries(state.answer), last, width), plus(residual, image, -width), (kept + [following])[-keep:]


def energy_task(numbers, size):
    measure = some_measure(numbers, size)
    return Task(energetic(measure, some_measure(numbers, size).matrix), some_vector(numbers, size), measure)


class StateTest(Case):
    def test_the_attributes(self):
        answer, residual, one, two = Vector([1, 2]), Vector([3, 4]), Vector([1, 0]), Vector([0, 1])
        for kept in ([one, two], (one, two)):
            state = State(7, answer, residual, kept)
            self.assertEqual(vars(state), {"count": 7, "answer": answer, "residual": residual, "kept": (one, two)})
            self.assertIs(type(state.kept), tuple)

    def test_a_list_that_is_changed_afterwards(self):
        kept = [Vector([1, 0])]
        state = State(0, Vector([0, 0]), Vector([1, 0]), kept)
        kept.append(Vector([0, 1]))
        kept[0] = Vector([5, 5])
        self.assertEqual(state.kept, (Vector([1, 0]),))

    def test_first_state(self):
        numbers = source(410)
        for size in range(2, 6):
            for task in (some_task(numbers, size), Task(cycle(size), Vector.zero(size), Measure.plain(size))):
                self.assertEqual(vars(self.assert_told_twice(lambda: first_state(task))),
                                 {"count": 0, "answer": Vector.zero(size), "residual": task.side, "kept": (task.side,)})


class AdvanceTest(Case):
    def check(self, task, state, keep, way):
        """Checks one step against sums, and that the arguments stay as they were; returns the next state."""
        before = described((task, state))
        found = advance(task, state, keep=keep, way=way)
        answer, residual, kept = slow_advance(task, state, keep, way)
        self.assertIs(type(found), State)
        self.assertEqual(found.count, state.count + 1)
        self.assertEqual(entries(found.answer), answer)
        self.assertEqual(entries(found.residual), residual)
        self.assertIs(type(found.kept), tuple)
        self.assertEqual([entries(vector) for vector in found.kept], kept)
        self.assertEqual(described((task, state)), before)
        self.assertEqual(described(advance(task, state, keep=keep, way=way)), described(found))
        return found

    def check_run(self, task, keep, way):
        """Follows the states up to the first one that does not change any more, and returns them."""
        states = [first_state(task)]
        while not states[-1].residual.is_zero and not states[-1].kept[-1].is_zero and len(states) < task.size + 3:
            states.append(self.check(task, states[-1], keep, way))
            self.assertEqual(entries(states[-1].residual), minus(entries(task.side), slow_times(
                table(task.matrix), entries(states[-1].answer))))
            self.assertEqual(len(states[-1].kept), min(keep, len(states)))
        return states

    def test_many(self):
        numbers = source(411)
        for size in range(2, 6):
            for keep in (1, 2, size - 1, size, size + 1, 10 ** 30):
                self.check_run(some_task(numbers, size, 2), keep, "least")
                self.check_run(energy_task(numbers, size), keep, "energy")
                self.check_run(energy_task(numbers, size), keep, "least")

    def test_the_way_is_least_if_it_is_left_out(self):
        state = first_state(LEAST)
        self.assertEqual(described(advance(LEAST, state, keep=2)),
                         described(advance(LEAST, state, keep=2, way="least")))
        self.assertNotEqual(described(advance(LEAST, state, keep=2)),
                            described(advance(LEAST, state, keep=2, way="energy")))

    def test_enough_kept_vectors_give_the_long_form(self):
        numbers = source(412)
        for size in range(2, 6):
            for task in (some_task(numbers, size), Task(cycle(size), Vector.unit(size, 0), Measure.plain(size))):
                for keep in (size - 1, size, 7):
                    states = self.check_run(task, max(keep, 1), "least")
                    steps = list(LeastSolver(task).steps())
                    if keep >= size:
                        self.assertEqual([(state.count, state.answer) for state in states],
                                         [(step.count, step.answer) for step in steps])
            task = energy_task(numbers, size)
            # In the way `energy` two vectors are always enough.
            for keep in (2, 3, 9):
                states = self.check_run(task, keep, "energy")
                steps = list(EnergySolver(task).steps())
                self.assertEqual([(state.count, state.answer) for state in states],
                                 [(step.count, step.answer) for step in steps])

    def test_what_is_needed(self):
        # The memory of a matrix that is its own adjoint is 1, so two vectors are enough, and one is not.
        wanted = [step.answer for step in LeastSolver(LEAST).steps()]
        for keep, same in [(1, False), (2, True), (3, True)]:
            states = self.check_run(LEAST, keep, "least")
            self.assertEqual([state.answer for state in states][:4] == wanted, same)

    def test_more_kept_vectors_than_keep(self):
        numbers = source(413)
        for size in range(2, 6):
            for way, task in (("least", some_task(numbers, size)), ("energy", energy_task(numbers, size))):
                for many in (2, 3, 6):
                    kept = [some_vector(numbers, size) for _ in range(many)]
                    state = State(-3, some_vector(numbers, size), some_vector(numbers, size), kept)
                    for keep in (1, 2, many, many + 1, many + 2):
                        found = self.check(task, state, keep, way)
                        self.assertEqual(len(found.kept), min(keep, many + 1))

    def test_a_kept_vector_that_is_zero(self):
        numbers = source(414)
        for size in range(2, 6):
            zero = Vector.zero(size)
            for way, task in (("least", some_task(numbers, size)), ("energy", energy_task(numbers, size))):
                one, two = some_vector(numbers, size), some_vector(numbers, size)
                for kept in ([zero, one], [zero, zero, one], [one, zero, two], [zero, one, two]):
                    found = self.check(task, State(1, zero, one, kept), 4, way)
                    self.assertEqual(found.kept[:-1], tuple(kept))
                    rest = [vector for vector in kept if not vector.is_zero]
                    other = advance(task, State(1, zero, one, rest), keep=4, way=way)
                    self.assert_same(found.kept[-1], other.kept[-1])

    def check_same(self, task, state):
        for way in ("least", "energy"):
            for keep in (1, 2, 5):
                found = advance(task, state, keep=keep, way=way)
                self.assertIs(type(found), State)
                self.assertEqual(vars(found), vars(state))

    def test_nothing_changes_at_the_end(self):
        one, zero, two = Vector([1, 2, 3]), Vector.zero(3), Vector([0, 0, 1])
        self.check_same(LEAST, State(4, one, zero, [one, two, one]))
        self.check_same(LEAST, State(4, one, two, [one, two, zero]))
        self.check_same(LEAST, State(0, one, two, [zero]))
        self.check_same(LEAST, State(0, zero, zero, [zero, zero]))
        self.check_same(Task(LEAST.matrix, zero, LEAST.measure), first_state(Task(LEAST.matrix, zero, LEAST.measure)))
        last = self.check_run(LEAST, 3, "least")[-1]
        self.assertTrue(last.residual.is_zero)
        self.check_same(LEAST, last)

    def test_a_direction_that_ends_before_the_residual(self):
        # Without the earlier vectors the next direction may be zero while a residual is left.
        task = Task(diagonal(1, 2), Vector([1, 1]), Measure.plain(2))
        state = self.check(task, State(0, Vector([0, 0]), Vector([1, 1]), [Vector([1, 0])]), 1, "least")
        self.assertEqual((str(state.residual), str(state.kept[-1])), ("0 1", "0 0"))
        self.check_same(task, state)

    def test_bad_ways_come_first(self):
        zero = Vector.zero(3)
        ended, open_one = State(0, zero, zero, [zero]), first_state(LEAST)
        singular = Task(Matrix.zero(3, 3), Vector([1, 0, 0]), Measure.plain(3))
        for way in ("", "orthogonal", "Least", "energy ", " least", "long"):
            for task, state in ((LEAST, ended), (LEAST, open_one), (singular, first_state(singular))):
                self.assert_refused(BadWay, {"way": way}, advance, task, state, keep=1, way=way)

    def test_keep_and_way_are_passed_by_keyword(self):
        with self.assertRaises(TypeError):
            advance(LEAST, first_state(LEAST), 2)
        with self.assertRaises(TypeError):
            advance(LEAST, first_state(LEAST))

    def test_nothing_but_the_arguments_is_used(self):
        # The side of the task says nothing.
        other = Task(LEAST.matrix, Vector([7, 7, 7]), LEAST.measure)
        state = advance(LEAST, first_state(LEAST), keep=2)
        self.assertEqual(described(advance(other, state, keep=2)), described(advance(LEAST, state, keep=2)))
