"""A program that runs programs."""

from ownglass.errors import BadInputs
from ownglass.making import MOST_INPUTS, listing, made_parameters, side_by_side, with_front
from ownglass.own import know_own
from ownglass.programs import inputs_of
from ownglass.texts import read_value

UNIVERSAL = """
((main (p xs) (apply (head p) xs p))
 (apply (f vs p) (ev (third f) (second f) vs p))
 (second (l) (head (tail l)))
 (third (l) (head (tail (tail l))))
 (fourth (l) (head (tail (tail (tail l)))))
 (ev (e ns vs p) (if (word e) (look e ns vs) (evlist (head e) e ns vs p)))
 (look (e ns vs) (if (same e (head ns)) (head vs) (look e (tail ns) (tail vs))))
 (evlist (w e ns vs p)
  (if (same w (quote quote)) (second e)
  (if (same w (quote if))
   (if (ev (second e) ns vs p) (ev (third e) ns vs p) (ev (fourth e) ns vs p))
  (evcall w (evs (tail e) ns vs p) p))))
 (evs (es ns vs p) (if es (join (ev (head es) ns vs p) (evs (tail es) ns vs p)) (quote ())))
 (evcall (w ys p)
  (if (same w (quote same)) (same (head ys) (second ys))
  (if (same w (quote word)) (word (head ys))
  (if (same w (quote head)) (head (head ys))
  (if (same w (quote tail)) (tail (head ys))
  (if (same w (quote join)) (join (head ys) (second ys))
  (apply (find w p) ys p)))))))
 (find (w p) (if (same w (head (head p))) (head p) (find w (tail p)))))
"""


def universal():
    """Return the program of two inputs, a program and the list of its inputs, that runs it on them."""
    return read_value(UNIVERSAL)


def fixed(changer, inputs):
    """Return a program of so many inputs that does what the program does that the changer makes of the returned one."""
    many_changed = inputs_of(changer)
    if many_changed != 1 or not 0 <= inputs <= MOST_INPUTS:
        raise BadInputs(f"a changer of {many_changed} inputs has no fixed program of {inputs}")
    parameters = made_parameters(inputs)
    functions, mains = side_by_side([universal(), changer])
    body = (mains[0], (mains[1], "s"), listing(parameters))
    return know_own(with_front(functions, ("s", *parameters), body))
