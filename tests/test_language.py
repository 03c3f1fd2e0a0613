"""The package keeps to the rules of its language subset that can be read off the code."""

import ast
import builtins
import pathlib
import re
import unittest

ROOT = pathlib.Path(__file__).resolve().parent.parent
PACKAGE = ROOT / "neveralone"
FILES = sorted(PACKAGE.rglob("*.py"))
TREES = {path: ast.parse(path.read_text()) for path in FILES}

LIBRARY = {"heapq": {"heappush", "heappop", "heapify"}, "math": {"gcd", "lcm", "isqrt", "comb", "factorial"},
           "collections": {"defaultdict", "deque"}}
CALLED = set("""len range enumerate zip min max sum abs sorted reversed int str bool list tuple dict set
    isinstance ord repr any all divmod iter property staticmethod classmethod
    ValueError TypeError NotImplemented""".split())
METHODS = set("""append clear copy count endswith extend find get index insert isalnum isalpha isdigit
    islower isspace isupper items join keys ljust lower lstrip partition pop remove replace reverse rfind
    rjust rpartition rsplit rstrip setdefault split splitlines startswith strip update upper values zfill
    bit_length isascii removeprefix removesuffix isdecimal""".split())
SPECIAL = set("""init eq repr str len enter exit call iter lt le gt ge ne add sub mul floordiv mod pow and or
    xor lshift rshift rmul neg pos invert abs bool contains getitem setitem""".split())
BARRED = set("""type typing typing_extensions enum Enum IntEnum StrEnum Flag IntFlag Generic Protocol ABC
    ABCMeta namedtuple NamedTuple TypedDict TYPE_CHECKING abstractmethod dataclass overload contextmanager
    mro elements open input law version_info with_traceback add_note register global eval exec""".split())
STATEMENTS = (ast.Assign, ast.If, ast.While, ast.For, ast.Return, ast.Break, ast.Continue, ast.Pass,
              ast.Raise, ast.Expr, ast.FunctionDef, ast.ClassDef, ast.ImportFrom, ast.Try)
TOP = (ast.ImportFrom, ast.FunctionDef, ast.ClassDef, ast.Assign)


def nodes(*kinds):
    return [(path.name, node) for path, tree in TREES.items() for node in ast.walk(tree)
            if isinstance(node, kinds)]


def own_methods():
    return {node.name for _, owner in nodes(ast.ClassDef) for node in owner.body
            if isinstance(node, ast.FunctionDef)}


def names_bound(function):
    """The parameters and the local variables of a function."""
    found = {part.arg for part in ast.walk(function.args) if isinstance(part, ast.arg)}
    return found | {part.id for part in ast.walk(function)
                    if isinstance(part, ast.Name) and isinstance(part.ctx, ast.Store)}


class Language(unittest.TestCase):
    def test_L1_L14_files(self):
        for path in PACKAGE.rglob("*"):
            if "__pycache__" not in path.parts:
                self.assertRegex(path.name, r"^[a-z_][a-z0-9_]*\.py$")
        for path in FILES:
            self.assertRegex(path.read_text(), r"\A[ -~\n]*\Z", path)

    def test_L2_L16_imports(self):
        for path, tree in TREES.items():
            for node in ast.walk(tree):
                self.assertNotIsInstance(node, ast.Import)
                if isinstance(node, ast.ImportFrom):
                    self.check_import(path, node)

    def check_import(self, path, node):
        self.assertEqual(node.level, 0)
        for name in node.names:
            self.assertIsNone(name.asname)
            if node.module in LIBRARY:
                self.assertIn(name.name, LIBRARY[node.module])
            else:
                source = ROOT / (node.module.replace(".", "/") + ".py")
                bound = {part.name for part in TREES[source].body if hasattr(part, "name")}
                bound |= {part.targets[0].id for part in TREES[source].body if isinstance(part, ast.Assign)}
                self.assertIn(name.name, bound, path)

    def test_L16_no_circles_of_imports(self):
        needs = {path.stem: {node.module.split(".")[1] for node in tree.body
                             if isinstance(node, ast.ImportFrom) and node.module.startswith("neveralone.")}
                 for path, tree in TREES.items()}
        done = set()
        while len(done) < len(needs):
            ready = {name for name in needs if name not in done and needs[name] <= done}
            self.assertTrue(ready, needs)
            done |= ready

    def test_L3_L6_statements(self):
        for path, tree in TREES.items():
            for node in tree.body[1:]:
                self.assertIsInstance(node, TOP, path)
            self.assertIsNotNone(ast.get_docstring(tree), path)
            for node in ast.walk(tree):
                if isinstance(node, ast.stmt):
                    self.assertIsInstance(node, STATEMENTS, (path, node.lineno))

    def test_L4_decorators(self):
        for name, node in nodes(ast.FunctionDef):
            for decorator in node.decorator_list:
                self.assertIn(ast.unparse(decorator), {"property", "staticmethod", "classmethod"}, name)

    def test_L5_special_methods(self):
        for name, node in nodes(ast.FunctionDef):
            if node.name.startswith("__"):
                self.assertIn(node.name.strip("_"), SPECIAL, name)

    def test_L7_expressions(self):
        for name, node in nodes(ast.GeneratorExp, ast.Div, ast.AugAssign, ast.Lambda, ast.NamedExpr):
            self.fail((name, type(node), getattr(node, "lineno", 0)))
        for name, node in nodes(ast.Constant):
            self.assertNotIsInstance(node.value, (float, complex), name)

    def test_L8_builtins(self):
        for name, node in nodes(ast.Name):
            if hasattr(builtins, node.id):
                self.assertIn(node.id, CALLED, (name, node.lineno))
                self.assertIsInstance(node.ctx, ast.Load, (name, node.lineno))

    def test_L10_sizes(self):
        for path in FILES:
            lines = path.read_text().split("\n")
            self.assertLessEqual(len(lines), 399, path)
            self.assertLessEqual(max(len(line) for line in lines), 120, path)
        for name, node in nodes(ast.FunctionDef):
            self.assertLessEqual(node.end_lineno - node.lineno + 1, 40, (name, node.name))

    def test_L12_L15_names(self):
        for path, tree in TREES.items():
            taken = {node.name for node in tree.body if isinstance(node, ast.ClassDef)}
            taken |= {part.name for node in tree.body if isinstance(node, ast.ImportFrom) for part in node.names}
            for node in ast.walk(tree):
                if isinstance(node, ast.FunctionDef):
                    bound = names_bound(node)
                    self.assertEqual(bound & taken, set(), (path, node.name))
                    self.assertEqual([name for name in bound if hasattr(builtins, name)], [], (path, node.name))

    def test_L17_words(self):
        for path, tree in TREES.items():
            for node in ast.walk(tree):
                for field in ("id", "attr", "arg", "name"):
                    self.assertNotIn(getattr(node, field, None), BARRED, path)
            self.assertNotRegex(path.read_text(), r"\(type\)|Meta|metaclass=|_wall|%[sd]")

    def test_L18_no_name_is_a_method_and_an_attribute(self):
        stored = {node.attr for _, node in nodes(ast.Attribute) if isinstance(node.ctx, ast.Store)}
        self.assertEqual(stored & own_methods(), set())

    def test_L24_sets(self):
        allowed = []
        for _, node in nodes(ast.Call):
            if isinstance(node.func, ast.Name) and node.func.id in ("len", "sorted"):
                allowed.extend(id(part) for part in node.args)
        for name, node in nodes(ast.Set, ast.SetComp):
            self.assertIn(id(node), allowed, (name, node.lineno))
        for name, node in nodes(ast.Call):
            if isinstance(node.func, ast.Name) and node.func.id == "set":
                self.assertIn(id(node), allowed, (name, node.lineno))

    def test_L25_methods(self):
        allowed = METHODS | own_methods()
        for name, node in nodes(ast.Call):
            if isinstance(node.func, ast.Attribute):
                self.assertIn(node.func.attr, allowed, (name, node.lineno))

    def test_L27_strings_and_exponents(self):
        for name, node in nodes(ast.Constant):
            if isinstance(node.value, str):
                self.assertNotIn("%", node.value, name)
        for name, node in nodes(ast.BinOp):
            if isinstance(node.op, ast.Pow):
                self.assertIsInstance(node.right, ast.Constant, name)
                self.assertLessEqual(node.right.value, 64)

    def test_L19_own_errors_alone_are_caught_and_made_on_the_spot(self):
        own = {node.name for node in TREES[PACKAGE / "errors.py"].body if isinstance(node, ast.ClassDef)}
        for name, node in nodes(ast.Try):
            self.assertEqual((node.finalbody, node.orelse), ([], []), name)
            for handler in node.handlers:
                self.assertIn(ast.unparse(handler.type), own, (name, node.lineno))
        for name, node in nodes(ast.Raise):
            self.assertIsNone(node.cause, name)
            self.assertIn(ast.unparse(node.exc.func), own, (name, node.lineno))

    def test_L23_generators_are_iterated_at_once(self):
        makers = {node.name for _, node in nodes(ast.FunctionDef)
                  if any(isinstance(part, (ast.Yield, ast.YieldFrom)) for part in ast.walk(node))}
        at_once = []
        for _, node in nodes(ast.For, ast.comprehension):
            at_once.append(id(node.iter))
        for _, node in nodes(ast.YieldFrom):
            at_once.append(id(node.value))
        for _, node in nodes(ast.Call):
            if isinstance(node.func, ast.Name) and node.func.id in ("list", "tuple", "sum", "sorted"):
                at_once.extend(id(part) for part in node.args)
        for name, node in nodes(ast.Call):
            if isinstance(node.func, ast.Name) and node.func.id in makers:
                self.assertIn(id(node), at_once, (name, node.lineno))
                for part in node.args:
                    self.assertIsInstance(part, (ast.Name, ast.Attribute, ast.Constant), (name, node.lineno))
        defined = [node.name for _, node in nodes(ast.FunctionDef)]
        self.assertEqual([name for name in makers if defined.count(name) > 1], [])


    def test_L23_no_loop_changes_what_it_walks(self):
        changing = """append extend insert pop remove clear setdefault update sort reverse""".split()
        for name, function in nodes(ast.FunctionDef):
            joined = names_in_one(function)
            for loop in ast.walk(function):
                if isinstance(loop, ast.For):
                    walked = {joined.get(part, part) for part in roots(loop.iter)}
                    changed = {part for stated in loop.body + loop.orelse for node in ast.walk(stated)
                               for part in changed_by(node, changing)}
                    changed = {joined.get(part, part) for part in changed}
                    self.assertEqual(walked & changed, set(), (name, function.name, loop.lineno))

    def test_L23_the_check_sees_other_names(self):
        seen = []
        for text in ("for x in xs: xs.append(x)", "ys = xs\nfor x in xs: ys[x] = 1", "ts.append(t)\nfor x in ts[-1]: t[x] = 1",
                     "zs = xs if c else ys\nfor x in enumerate(zs): ys.pop()", "for x in self.xs: self.xs.clear()",
                     "while c:\n  new = []\n  for x in old: new.append(x)\n  old = new"):
            function = ast.parse("def f():\n" + "".join(f"  {line}\n" for line in text.split("\n"))).body[0]
            joined = names_in_one(function)
            loop, = [node for node in ast.walk(function) if isinstance(node, ast.For)]
            changed = [part for node in ast.walk(loop) for part in changed_by(node, ["append", "pop", "clear"])]
            seen.append({joined.get(part, part) for part in roots(loop.iter)}
                        & {joined.get(part, part) for part in changed} != set())
        self.assertEqual(seen, [True] * 6)


def roots(node):
    """The names and attributes that an expression is taken from without a new list, also by items and choices."""
    if isinstance(node, ast.Name):
        return [node.id]
    if isinstance(node, ast.Attribute):
        return [f".{node.attr}"]
    if isinstance(node, ast.Subscript):
        return [] if isinstance(node.slice, ast.Slice) else roots(node.value)
    if isinstance(node, ast.IfExp):
        return roots(node.body) + roots(node.orelse)
    if isinstance(node, ast.BoolOp):
        return [name for value in node.values for name in roots(value)]
    if isinstance(node, ast.Call) and isinstance(node.func, ast.Attribute) and node.func.attr in ("items", "values", "keys"):
        return roots(node.func.value)
    if isinstance(node, ast.Call) and isinstance(node.func, ast.Name) and node.func.id in ("enumerate", "zip", "reversed"):
        return [name for value in node.args for name in roots(value)]
    return []


def changed_by(node, changing):
    """The names and attributes that a statement or a call changes."""
    if isinstance(node, ast.Call) and isinstance(node.func, ast.Attribute) and node.func.attr in changing:
        return roots(node.func.value)
    if isinstance(node, ast.Subscript) and not isinstance(node.ctx, ast.Load):
        return roots(node.value)
    return []


def names_in_one(function):
    """For each name of a function the one that stands for all names that may be the same list, or hold it."""
    groups = []
    for node in ast.walk(function):
        found = []
        if isinstance(node, ast.Assign) and not isinstance(node.targets[0], ast.Tuple):
            found = roots(node.targets[0]) + roots(node.value)
        if isinstance(node, ast.Call) and isinstance(node.func, ast.Attribute) and node.func.attr == "append":
            found = roots(node.func.value) + roots(node.args[0])
        if len(found) > 1:
            met = [group for group in groups if group & set(found)]
            groups = [group for group in groups if group not in met] + [set(found).union(*met)]
    return {name: min(group) for group in groups for name in group}


INTERFACE = """
errors NeverAloneError BadBook BadChain Mismatch NotEven NotTwoEach BadFamily BadRule NotARoom NotAPartition NoSigns
 NotSigned TooMany BadText BadPaper BadLabels BadBounds Unbounded Tied BadTable BadOrders BadParties BadWeb BadDeed
rooms faces(room) without(room,place) exchanged(room,leaving,entering) merged(first,second) complement(places,room)
 subsets(items,size) order_sign(row) shuffle_sign(first,second) room_fault(places,size,room)
books Book.__init__(self,places,size,rooms) Book.empty(cls,places,size) Book.__eq__ Book.__len__ Book.__contains__
 Book.__iter__ Book.__xor__ Book.__mul__ Book.is_even(self) Book.is_two_each(self) Book.odd_faces(self)
 Book.rooms_at(self,face) Book.boundary(self) Book.link(self,place) face_table(book)
chains Chain.__init__(self,places,degree,terms) Chain.of_book(book) Chain.point(cls,places,place) Chain.__eq__
 Chain.__len__ Chain.__iter__ Chain.__getitem__ Chain.__neg__ Chain.__add__ Chain.__sub__ Chain.__rmul__ Chain.__mul__
 Chain.__pow__ Chain.__lshift__ Chain.__abs__ Chain.scaled(self,number) Chain.boundary(self)
 Chain.mapped(self,places,images) Chain.odd_book(self)
families Family.__init__(self,books) Family.__eq__ Family.__len__ Family.__getitem__ Family.__iter__
 Family.replaced(self,at,book)
rules Rule.__init__(self,book,order='next') Rule.__call__(self,face,room) Rule.pairs(self)
 TableRule.__init__(self,book,pairs)
exact determinant(rows) solve(rows,right) lowest_terms(numbers) sign_of(number) first_sign(numbers)
notation format_book(book) format_chain(chain) format_family(family) parse_book(text) parse_chain(text)
 parse_family(text) format_row(row) parse_row(line)
faults book_faults(places,size,rooms) odd_paper(book) family_faults(books)
naming Renaming.__init__(self,images) Renaming.__eq__ Renaming.__len__ Renaming.__call__(self,place)
 Renaming.__invert__ Renaming.__mul__ Renaming.__pow__ Renaming.powered(self,k) inverse_images(images)
 renamed_room(room,images) renamed_row(row,images) renamed(book,images) renamed_chain(chain,images)
 renamed_family(family,images) renaming_between(first,second) symmetries(book)
makers all_rooms(places,size) boundary_book(places,corners) ring_book(places,size) label_book(labels,kinds)
 cross_book(places,pairs) join(*books) total(*books)
filling filling(book,apex) filled(places,size,apex,rooms) book_number(book,apex=0)
 numbered_book(places,size,number,apex=0) even_book_count(places,size) walk_even_books(places,size,*,apex=0)
spans combination(target,books) rank_of(books)
partitions MOST_LISTED list_partitions(family,/,*,most=MOST_LISTED) walk_partitions(family) count_partitions(family)
 partitions_with(family,at,room) partition_fault(family,row) check_partition(family,row)
ledgers ledger(family) check_ledger(family,told) parity(family) counts_by_place(family,place)
 join_families(first,second)
lots lot_family(book) list_lots(book,/,*,most=MOST_LISTED) count_lots(book) lot_fault(book,lot) check_lot(book,lot)
points MOST_NEAR double_place(row) near_fault(family,row,target) tied_points(family,row,target)
 list_near(family,target,/,*,most=MOST_NEAR)
paths MOST_EXCHANGES walk_path(family,row,target,rules=None,*,most=MOST_EXCHANGES)
 mate(family,row,target,rules=None,*,most=MOST_EXCHANGES)
 exchanges(family,row,target,rules=None,*,most=MOST_EXCHANGES) mate_pairs(family,target,rules=None)
lotpaths lot_mate(book,lot,target,order='next') lot_pairs(book,target,order='next')
papers PathPaper.__init__(self,family,target,start,steps) PathPaper.end(self) PathPaper.__eq__ PathPaper.__len__
 PathPaper.__iter__ paper_of(family,row,target,rules=None) reversed_paper(paper)
matewebs mate_table(family,rules=None) mate_pieces(family,rules=None) another_partition(family,row)
 rule_rings(family,target,first,second)
signs pieces(book) bond(first,second) find_signs(book) signed_book(book) ring_turn(book,ring) is_signed(chain)
made_signs boundary_chain(places,corners) ring_chain(places,size) label_chain(labels,kinds) cross_chain(places,pairs)
balance signed_family(chains) partition_sign(chains,row) balance(chains) signed_count(chains) lot_sign(chain,lot)
 lot_balance(chain)
senses sense_at(chain,face,room) SenseRule.__init__(self,chain) reading_sign(chains,row,target,came)
 walk_signs(chains,row,target) unlike_pairs(chains,target)
labels full_rooms(book,labels) label_family(book,labels) signed_full_count(chain,labels) closed_book(book)
 full_faces(book,labels,missing) another_full(book,labels,room,target,*,order='next')
 rim_mate(book,labels,start,*,missing)
strings runs(places,room) string_names(places,room) string_room(places,names) label_web(labels)
 web_pairings(ties,kinds) full_strings(labels,kinds) another_string(labels,kinds,room,target)
 another_pairing(labels,kinds,names,target)
bounds Bounds.__init__(self,unknowns,rows) Bounds.__len__ Bounds.__iter__ Bounds.__contains__ Bounds.is_empty(self)
 Bounds.tight_rows(self,numerators,denominator=1) Bounds.corner_rooms(self)
corners corner_book(bounds) corner_chain(bounds) corner_point(bounds,room) edge_direction(bounds,room,leaving)
 other_end(bounds,room,leaving) goal_factors(bounds,room,goal) climb(bounds,room,goal) contradiction(bounds)
 content(bounds)
tables check_tables(first,second) row_bounds(first,second) column_bounds(first,second) table_family(first,second)
 table_chains(first,second) start_row(first,second)
rests is_rest(first,second,weights,others) rest_of_row(first,second,row) row_of_rest(first,second,rest)
 list_rests(first,second) rests_by_supports(first,second)
rest_paths rest_from_start(first,second,target=0) rest_mate(first,second,rest,target=0) rest_sign(first,second,rest)
 fair_rest(table)
orders check_orders(orders) full_orders(orders) least_place(orders,at,room) beaters(orders,room) unbeaten_rooms(orders)
 unbeaten_book(orders) unbeaten_chain(orders) other_unbeaten(orders,room,leaving)
bases check_matrix(matrix) is_base(matrix,room) base_solution(matrix,room) bases_book(matrix) bases_chain(matrix)
 other_base(matrix,room,entering)
shares base_family(orders,matrix) unbeaten_bases(orders,matrix) base_sign(orders,matrix,room)
 base_path(orders,matrix,target) check_parties(persons,parties,wishes) party_orders(persons,parties,wishes)
 party_matrix(persons,parties) share_family(persons,parties,wishes) share_start(persons,parties)
 share_path(persons,parties,wishes,target) stable_shares(persons,parties,wishes,target=0)
 blocking_parties(persons,parties,wishes,numerators,denominator)
 is_stable(persons,parties,wishes,numerators,denominator)
webs web_degrees(web) closed_walks(web) arrows(web) ring_parts(web) closed_ring(places,order)
pairings second_pairing(web,pairing,target,*,order='next') odd_pieces(web,room) find_pairing(web)
trees tree_book(web) tree_chain(web)
skins euler_number(book) is_surface(book) triangle_lots(book) second_triangles(book,lot,target,*,order='next')
mixed sizes_of(family) mixed_counts(family) equal_books(family) sorted_row(family,row) list_sorted(family)
 sorted_mate(family,row,target,*,order='next')
worlds World.__init__(self,family,start=None) World.thing_of(self,row) World.row_of(self,thing) World.things(self)
 World.number(self) World.other(self,thing,target) World.from_start(self,target) World.matched(self,target)
label_worlds LabelWorld.__init__(self,book,labels) LabelWorld.thing_of(self,row) LabelWorld.row_of(self,thing)
 StringWorld.__init__(self,labels,kinds) StringWorld.thing_of(self,row) StringWorld.row_of(self,thing)
table_worlds TableWorld.__init__(self,first,second) TableWorld.thing_of(self,row) TableWorld.row_of(self,thing)
base_worlds BaseWorld.__init__(self,orders,matrix) BaseWorld.thing_of(self,row) BaseWorld.row_of(self,thing)
 ShareWorld.__init__(self,persons,parties,wishes) ShareWorld.shares_of(self,thing)
lot_worlds LotWorld.__init__(self,book,order='next') LotWorld.thing_of(self,row) LotWorld.row_of(self,thing)
 LotWorld.things(self) LotWorld.number(self) LotWorld.other(self,thing,target)
deed_texts format_deed(deed) parse_deed(line)
desk Desk.__init__(self,places,sizes) Desk.read(cls,text) Desk.__len__ Desk.__iter__ Desk.__getitem__(self,at)
 Desk.__setitem__(self,at,worth) Desk.current(self) Desk.journal(self) Desk.number(self) Desk.do(self,deed)
 Desk.do_all(self,*deeds) Desk.undo(self) Desk.redo(self) Desk.papers(self) Desk.standing(self) Desk.text(self)
 Desk.report(self)
"""


def defined_in(tree):
    """What a file defines, with arguments, and with the class in front of a method."""
    found = {}
    for node in tree.body:
        if isinstance(node, ast.Assign):
            found[node.targets[0].id] = ""
        elif not isinstance(node, (ast.ImportFrom, ast.Expr)):
            found[node.name] = signature(node)
            for part in node.body:
                if isinstance(part, ast.FunctionDef):
                    found[f"{node.name}.{part.name}"] = signature(part)
    return found


def signature(node):
    return f"({ast.unparse(node.args)})".replace(" ", "") if isinstance(node, ast.FunctionDef) else ""


class Interface(unittest.TestCase):
    def test_names_and_arguments_stand_in_their_files(self):
        for entry in re.split(r"\n(?! )", INTERFACE.strip()):
            name, *listed = entry.split()
            found = defined_in(TREES[PACKAGE / f"{name}.py"])
            for word in listed:
                plain = word.split("(")[0]
                self.assertIn(plain, found, name)
                if "(" in word:
                    self.assertEqual(plain + found[plain], word, name)
