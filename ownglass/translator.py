"""Programs of the first language that translate programs into machine programs, and run machine programs."""

from ownglass.texts import read_value

TRANSLATOR = """
((main (p) (if p (app (func (head p)) (main (tail p))) (quote ())))
 (func (f) (fun (head f) (head (tail f)) (head (tail (tail f)))))
 (fun (n ps b)
  (join
   (join n (app (ops b ps (quote ()) (one n)) (one (join (quote slide) (one ps)))))
   (routs b ps (quote ()) (one n))))
 (one (x) (join x (quote ())))
 (app (x y) (if x (join (head x) (app (tail x) y)) y))
 (after (e ps) (if (same e (head ps)) (tail ps) (after e (tail ps))))
 (ops (e ps d w)
  (if (word e)
   (one (join (quote copy) (one (app (after e ps) d))))
   (oplist (head e) e ps d w)))
 (oplist (k e ps d w)
  (if (same k (quote quote)) (one (join (quote push) (tail e)))
  (if (same k (quote if))
   (app
    (ops (head (tail e)) ps d (join (quote p1) w))
    (one (join (quote if) (join (join (quote p2) w) (one (join (quote p3) w))))))
  (app
   (args (tail e) ps d w (quote (p1 p2 p3 p4 p5 p6 p7 p8 p9 p10 p11 p12)))
   (one (lastop k (quote (same word head tail join))))))))
 (lastop (k l) (if l (if (same k (head l)) (one k) (lastop k (tail l))) (join (quote call) (one k))))
 (args (es ps d w is)
  (if es
   (app
    (ops (head es) ps d (join (head is) w))
    (args (tail es) ps (join (quote a) d) w (tail is)))
   (quote ())))
 (routs (e ps d w) (if (word e) (quote ()) (routlist (head e) (tail e) ps d w)))
 (routlist (k es ps d w)
  (if (same k (quote quote)) (quote ())
  (if (same k (quote if))
   (app
    (routs (head es) ps d (join (quote p1) w))
    (app
     (branch (head (tail es)) ps d (join (quote p2) w))
     (branch (head (tail (tail es))) ps d (join (quote p3) w))))
  (routargs es ps d w (quote (p1 p2 p3 p4 p5 p6 p7 p8 p9 p10 p11 p12))))))
 (branch (e ps d w) (join (join w (ops e ps d w)) (routs e ps d w)))
 (routargs (es ps d w is)
  (if es
   (app
    (routs (head es) ps d (join (head is) w))
    (routargs (tail es) ps (join (quote a) d) w (tail is)))
   (quote ()))))
"""

MACHINE_UNIVERSAL = """
((main (p xs) (head (run (tail (head p)) (turn xs (quote ())) p)))
 (turn (l s) (if l (turn (tail l) (join (head l) s)) s))
 (run (is s p)
  (if is
   (run (tail is) (step (head (head is)) (head (tail (head is))) (head is) s p) p)
   s))
 (step (k v i s p)
  (if (same k (quote push)) (join v s)
  (if (same k (quote copy)) (join (head (skip v s)) s)
  (if (same k (quote slide)) (join (head s) (skip v (tail s)))
  (if (same k (quote call)) (run (find v p) s p)
  (if (same k (quote if)) (run (find (if (head s) v (head (tail (tail i)))) p) (tail s) p)
  (plain k s)))))))
 (plain (k s)
  (if (same k (quote word)) (join (word (head s)) (tail s))
  (if (same k (quote head)) (join (head (head s)) (tail s))
  (if (same k (quote tail)) (join (tail (head s)) (tail s))
  (if (same k (quote same)) (join (same (head (tail s)) (head s)) (tail (tail s)))
  (join (join (head (tail s)) (head s)) (tail (tail s))))))))
 (skip (n s) (if n (skip (tail n) (tail s)) s))
 (find (v p) (if (same v (head (head p))) (tail (head p)) (find v (tail p)))))
"""


def translator():
    """Return the program of one input, a program, that has the text of its machine program as its value."""
    return read_value(TRANSLATOR)


def machine_universal():
    """Return the program of two inputs, a machine program and the list of its inputs, that runs it on them."""
    return read_value(MACHINE_UNIVERSAL)
