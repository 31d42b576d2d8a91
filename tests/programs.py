"""Programs that are taken, and what they come to: the shown value of the end, and what is told."""

from kindsworn.reader import read_program

HEAD = "kind List ?0 = Nil | Cons (?0, List ?0) kind Opt ?0 = No | Some ?0 kind Tree = Leaf | Node (Tree, num, Tree) kind Fun ?0 = Fun (?0 -> ?0) give "
BUILD = "rec build = fn n -> if n = 0 then Nil else Cons (n, build (n - 1)) in "

TEXTS = [
    ("7", "7", ()), ("~2147483648 - 1", "2147483647", ()), ("(1, true, ())", "(1, true, ())", ()), ("{a = 1, b = {a = 2}}.b.a", "2", ()), ("Some (Some No)", "Some (Some No)", ()), ("fn x -> x", "fn", ()), ("new 1", "cell", ()),
    ("let x = 1 in let f = fn y -> x + y in let x = 10 in f x", "11", ()), ("let u = ((tell 1, tell 2), {a = tell 3, b = tell 4}) in 5", "5", (1, 2, 3, 4)), ("((fn x -> fn y -> x - y) (let u = tell 1 in 9)) (let u = tell 2 in 4)", "5", (1, 2)),
    ("rec f = fn n -> if n = 0 then 1 else n * f (n - 1) in f 10", "3628800", ()), ("rec f = fn n -> fn s -> if n = 0 then s else f (n - 1) (s + n) in f 12 0", "78", ()),
    ("rec even = fn n -> if n = 0 then true else odd (n - 1) and odd = fn n -> if n = 0 then false else even (n - 1) in (even 7, odd 7)", "(false, true)", ()),
    ("let c = new 0 in rec loop = fn n -> if n = 0 then get c else let u = put c (get c + n) in let u = tell (get c) in loop (n - 1) in loop 4", "10", (4, 7, 9, 10)),
    (BUILD + "rec sum = fn l -> match l with | Nil -> 0 | Cons (x, t) -> x + sum t end in sum (build 9)", "45", ()),
    (BUILD + "rec map = fn f -> fn l -> match l with | Nil -> Nil | Cons (x, t) -> Cons (f x, map f t) end in map (fn x -> x * x) (build 3)", "Cons (9, Cons (4, Cons (1, Nil)))", ()),
    (BUILD + "rec turn = fn l -> fn done -> match l with | Nil -> done | Cons (x, t) -> turn t (Cons (x, done)) end in turn (build 3) Nil", "Cons (1, Cons (2, Cons (3, Nil)))", ()),
    ("rec put1 = fn t -> fn n -> match t with | Leaf -> Node (Leaf, n, Leaf) | Node (a, m, b) -> if n < m then Node (put1 a n, m, b) else Node (a, m, put1 b n) end in "
     "rec walk = fn t -> match t with | Leaf -> () | Node (a, n, b) -> let u = walk a in let u = tell n in walk b end in walk (put1 (put1 (put1 (put1 Leaf 5) 2) 9) 3)", "()", (2, 3, 5, 9)),
    ("let c = new (fn x -> x) in let u = put c (fn x -> (get c) 3 + x) in let v = put c (fn x -> x * 5) in (get c) 7", "35", ()),
    ("let c = new (fn x -> x) in let u = put c (fn n -> if n = 0 then 4 else (get c) (n - 1)) in (get c) 6", "4", ()),
    ("match (1, (true, {a = No, b = Some 4})) with | (2, _) -> 0 | (_, (_, {b = Some x})) -> x + 1 | (n, (true, {a = p})) -> n | _ -> 9 end", "5", ()),
    ("(fn r -> r.a + r.b) {a = 1, b = 2, c = true}", "3", ()), ("match {a = 1, b = (2, 3)} with | {b = (x, y)} -> (y, x) end", "(3, 2)", ()), ("match Fun (fn x -> x + 1) with | Fun f -> f (f 1) end", "3", ()),
    ("let id = fn x -> x in (id 1, id true, id id 3)", "(1, true, 3)", ()), ("rec f = fn x -> g x and g = fn x -> h x and h = fn x -> if x < 1 then x else f (x - 1) in (f 2, f, g, h)", "(0, fn, fn, fn)", ()), ("rec f = fn x -> let k = g in match (k, h) with | (a, b) -> a x + b x end and g = fn x -> x + 1 and h = fn x -> x * 10 in f 2", "23", ()),
    ("let a = 1 in let b = 2 in rec f = fn n -> if n < 1 then a else g (n - 1) and g = fn n -> if n < 1 then b else f (n - 1) in (f 3, f 4, (fn f -> f 1) g)", "(2, 1, 1)", ()),
    ("rec f = fn f -> f + 1 in f 2", "3", ()), ("let x = 1 in match 5 with | x -> x + 1 end + x", "7", ()), ("let f = fn a -> fn b -> fn c -> (a, b, c) in f 1 2 3", "(1, 2, 3)", ()),
    ("if 1 < 2 then if 2 = 3 then 1 else 2 else 3", "2", ()), ("(if true then 1 else 2) + (match 3 with | 3 -> 4 | n -> n end) + (let x = 5 in x) + (rec f = fn x -> x in f 6)", "16", ()),
    ("rec count = fn n -> if n = 0 then () else let u = tell n in match Some n with | Some k -> count (k - 1) | No -> () end in count 3", "()", (3, 2, 1)),
    ("rec grow = fn n -> fn l -> if n = 0 then l else grow (n - 1) (Cons (new n, l)) in rec sum = fn l -> match l with | Nil -> 0 | Cons (c, t) -> get c + sum t end in let l = grow 5 Nil in "
     "let u = match l with | Cons (c, _) -> put c 100 | Nil -> () end in sum l", "114", ()),
]

ENDLESS = ["rec f = fn n -> f n in f 1", "rec f = fn n -> let u = tell n in g (n + 1) and g = fn n -> if n < 0 then 0 else f n in f 1", "rec f = fn n -> 1 + f n in f 0",
           "rec f = fn l -> f (Cons (1, l)) in f Nil", "rec f = fn c -> f (new (get c)) in f (new 1)"]

STUCK = ["1 1", "if 1 then 2 else 3", "match 1 with | 2 -> 3 end", "1 + true", "{a = 1}.b", "get 1", "put 1 2", "tell true", "true + 1", "1 < true", "true = true", "(1, 2).a", "match No with | Some x -> x end",
         "match (1, 2) with | (2, x) -> 1 | (1, 3) -> 2 end", "let u = tell 5 in () ()", "1 + (fn x -> x) (2 3)", "(1, 2 3)"]

# Loops whose calls are in tail position; the name n is how many rounds they go.
TAILS = [
    "rec f = fn n -> if n = 0 then 7 else f (n - 1) in f ROUNDS", "rec f = fn n -> let m = n - 1 in if n = 0 then 7 else f m in f ROUNDS",
    "rec f = fn n -> match n with | 0 -> 7 | m -> f (m - 1) end in f ROUNDS", "rec f = fn n -> if n = 0 then 7 else g (n - 1) and g = fn n -> if n = 0 then 8 else f (n - 1) in f ROUNDS",
    "let c = new 0 in rec f = fn n -> if n = 0 then get c else let u = put c (get c + n) in f (n - 1) in f ROUNDS", "rec f = fn n -> rec h = fn k -> f (k - 1) in if n = 0 then 7 else h n in f ROUNDS",
    "rec f = fn n -> fn s -> match (n, s) with | (0, _) -> s | (m, {a = x}) -> f (m - 1) {a = x + m} end in f ROUNDS {a = 0}",
    "let c = new (fn n -> n) in let u = put c (fn n -> if n = 0 then 7 else (get c) (n - 1)) in (get c) ROUNDS",
]
# Loops that leave something to do at each round.
HEAPING = ["rec f = fn n -> if n = 0 then 7 else 1 + f (n - 1) in f ROUNDS", "rec f = fn n -> if n = 0 then Nil else Cons (n, f (n - 1)) in f ROUNDS", "rec f = fn n -> if n = 0 then () else let u = f (n - 1) in tell n in f ROUNDS"]


def program(text):
    """The program of a text behind the declarations."""
    return read_program(HEAD + text)


def rounds(text, many):
    """The program of a loop that goes so many rounds."""
    return program(text.replace("ROUNDS", str(many)))
