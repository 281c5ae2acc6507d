package parse_test

import (
	"fmt"
	"regexp"
	"slices"
	"strings"
	"testing"

	"tidemark/api"
	"tidemark/lex"
	"tidemark/parse"
	"tidemark/utf"
	"tidemark/value"
)

// grammar is the chapter's, with what may be missing or repeated laid into parts of their own; - is nothing. OUTER is a VALUE that stands in no other one.
const grammar = `
STMT = make NAME | drop NAME | index NAME PATH | unindex NAME PATH | insert NAME OUTER | replace NAME OUTER | get NAME OUTER | find NAME WHERE ORDER LIMIT SHOW | count NAME WHERE | delete NAME WHERE | update NAME WHERE CHANGE CHANGES
WHERE = where COND | -
ORDER = order by BY BYS | -
BYS = , BY BYS | -
BY = PATH DESC
DESC = desc | -
LIMIT = limit NUMBER | -
SHOW = show PATH PATHS | -
PATHS = , PATH PATHS | -
CHANGES = , CHANGE CHANGES | -
CHANGE = set PATH = OUTER | unset PATH | push PATH OUTER | add PATH NUMBER
COND = AND ANDS
ANDS = or AND ANDS | -
AND = NOT NOTS
NOTS = and NOT NOTS | -
NOT = not NOT | ( COND ) | TEST
TEST = PATH WHAT
WHAT = exists | in OUTER | = OUTER | != OUTER | < OUTER | <= OUTER | > OUTER | >= OUTER
OUTER = VALUE
VALUE = null | true | false | NUMBER | QUOTED | [ LIST ] | { DOC }
LIST = VALUE VALUES | -
VALUES = , VALUE VALUES | -
DOC = FIELD FIELDS | -
FIELDS = , FIELD FIELDS | -
FIELD = QUOTED : VALUE
PATH = STEP STEPS
STEPS = . STEP STEPS | -
STEP = WORD | NUMBER
NAME = WORD
WHOLE = STMT END
WHOLECOND = COND END`

// choices are the rows of symbols that each part may be.
var choices = choicesOf(grammar)

func choicesOf(g string) map[string][][]string {
	m := map[string][][]string{}
	for line := range strings.Lines(strings.TrimSpace(g)) {
		part, rest, _ := strings.Cut(strings.TrimSpace(line), " = ")
		m[part] = nil
		for _, c := range strings.Split(rest, " | ") {
			m[part] = append(m[part], strings.Fields(c))
		}
	}
	return m
}

// node is a part that was read: the tokens from its first one on, as far as it was read.
type node struct {
	symbol string
	l      []api.Token
	first  int // which token of all
	whole  bool
	kids   []*node
}

// hand is Parse by another hand: it goes by the grammar's text, builds a tree as far as tokens may stand where they do, then gathers all faults that are in the tree.
type hand struct {
	l      []api.Token
	at     int
	faults []handFault
}

// handFault is a fault: how far to the right it is found, its place.
type handFault struct {
	found, place int
	e            api.Errno
}

// kinds are the symbols that stand for all tokens of a kind.
var kinds = map[string]int{"END": api.End, "WORD": api.Word, "NUMBER": api.Number, "QUOTED": api.Quoted}

// fits tells whether a symbol that is no part stands for that token.
func fits(symbol string, t api.Token) bool {
	if k, ok := kinds[symbol]; ok {
		return t.Kind == k
	}
	return t.S == symbol && (t.Kind == api.Word || t.Kind == api.Sign)
}

// begins tells whether what the symbol stands for may begin with that token.
func begins(symbol string, t api.Token) bool {
	if choices[symbol] == nil {
		return fits(symbol, t)
	}
	return slices.ContainsFunc(choices[symbol], func(c []string) bool { return begins(c[0], t) })
}

// read reads what the symbol stands for.
func (h *hand) read(symbol string) *node {
	n := &node{symbol: symbol, first: h.at}
	defer func() { n.l = h.l[n.first:h.at] }()
	if choices[symbol] == nil {
		if n.whole = fits(symbol, h.l[h.at]); n.whole {
			h.at++
		}
		return n
	}
	for _, c := range choices[symbol] {
		if c[0] == "-" {
			n.whole = true
			return n
		}
		if !begins(c[0], h.l[h.at]) {
			continue
		}
		for _, s := range c {
			kid := h.read(s)
			n.kids = append(n.kids, kid)
			if !kid.whole {
				return n
			}
		}
		n.whole = true
		return n
	}
	return n
}

// fault notes a fault at the first token of n, found there or right behind n.
func (h *hand) fault(n *node, behind bool, e api.Errno) {
	found := 2 * n.first
	if behind {
		found = 2*(n.first+len(n.l)) - 1
	}
	h.faults = append(h.faults, handFault{found, n.l[0].At, e})
}

var pathForm = regexp.MustCompile(`\A([A-Za-z_][A-Za-z0-9_]{0,23}|[0-9]|[1-9][0-9])(\.([A-Za-z_][A-Za-z0-9_]{0,23}|[0-9]|[1-9][0-9])){0,7}\z`)

// look notes the faults of n and of what is in it, which stands within so many parentheses and nots.
func (h *hand) look(n *node, within int) {
	switch {
	case n.symbol == "NAME" && n.whole && len(n.l[0].S) > 24:
		h.fault(n, false, api.ErrLimit)
	case n.symbol == "PATH" && n.whole && !pathForm.MatchString(n.path()):
		h.fault(n, true, api.ErrSyntax)
	case n.symbol == "OUTER" && n.whole:
		if e := value.Good(n.value()); e != api.OK {
			h.fault(n, true, e)
		}
	case n.symbol == "DOC":
		names := map[string]int{}
		for _, f := range n.all("FIELD") {
			if len(f.l) < 2 {
				continue
			}
			if names[f.l[0].S]++; names[f.l[0].S] > 1 {
				h.fault(f, false, api.ErrDup)
			}
		}
	case n.symbol == "NOT" && len(n.l) > 0 && n.kids[0].symbol != "TEST":
		if within > 16 {
			h.fault(n, false, api.ErrDeep)
		}
		within++
	}
	for _, k := range n.kids {
		h.look(k, within)
	}
}

// all are the nearest parts of that symbol within n.
func (n *node) all(symbol string) []*node {
	var l []*node
	for _, k := range n.kids {
		if k.symbol == symbol {
			l = append(l, k)
		}
		if k.symbol == symbol+"S" {
			l = append(l, k.all(symbol)...)
		}
	}
	return l
}

// part is the part of that symbol, in n itself.
func (n *node) part(symbol string) *node {
	i := slices.IndexFunc(n.kids, func(k *node) bool { return k.symbol == symbol })
	if i < 0 {
		return &node{}
	}
	return n.kids[i]
}

func (n *node) path() string {
	s := ""
	for _, t := range n.l {
		if t.Kind == api.Number {
			s += fmt.Sprint(t.N)
		}
		s += t.S
	}
	return s
}

func (n *node) value() api.Val {
	if len(n.l) == 0 {
		return api.Val{}
	}
	if n.symbol == "OUTER" {
		return n.kids[0].value()
	}
	switch t := n.l[0]; {
	case t.Kind == api.Number:
		return number(t.N)
	case t.Kind == api.Quoted:
		return text(t.S)
	case t.S == "null":
		return null
	case t.S == "true":
		return boolean(1)
	case t.S == "false":
		return boolean(0)
	case t.S == "[":
		v := list()
		for _, x := range n.part("LIST").all("VALUE") {
			v.L = append(v.L, x.value())
		}
		return v
	}
	byName := map[string]api.Val{}
	for _, f := range n.part("DOC").all("FIELD") {
		byName[f.l[0].S] = f.part("VALUE").value()
	}
	v := doc()
	for name, x := range byName {
		v.F = append(v.F, field(name, x))
	}
	slices.SortFunc(v.F, func(a, b api.Field) int { return strings.Compare(a.Name, b.Name) })
	return v
}

func (n *node) cond() api.Cond {
	switch n.symbol {
	case "COND", "AND":
		op, kind := "or", "AND"
		if n.symbol == "AND" {
			op, kind = "and", "NOT"
		}
		l := n.all(kind)
		if len(l) == 1 {
			return l[0].cond()
		}
		c := api.Cond{Op: op}
		for _, k := range l {
			c.L = append(c.L, k.cond())
		}
		return c
	case "NOT":
		if n.kids[0].symbol == "not" {
			return not(n.kids[1].cond())
		}
		if n.kids[0].symbol == "(" {
			return n.kids[1].cond()
		}
		return n.kids[0].cond()
	case "TEST":
		what := n.part("WHAT")
		return test(n.part("PATH").path(), what.l[0].S, what.part("OUTER").value())
	}
	return api.Cond{}
}

func (n *node) stmt() api.Stmt {
	x := api.Stmt{Verb: n.l[0].S, Coll: n.part("NAME").l[0].S, Path: n.part("PATH").path(), V: n.part("OUTER").value()}
	x.Where = n.part("WHERE").part("COND").cond()
	for _, b := range n.part("ORDER").all("BY") {
		x.Order = append(x.Order, api.Order{Path: b.part("PATH").path(), Desc: len(b.part("DESC").l) > 0})
	}
	if l := n.part("LIMIT").l; len(l) > 0 {
		x.Limit = int(l[1].N)
	}
	for _, p := range n.part("SHOW").all("PATH") {
		x.Show = append(x.Show, p.path())
	}
	for _, c := range n.all("CHANGE") {
		d := change(c.l[0].S, c.part("PATH").path(), c.part("OUTER").value())
		if d.Do == "add" {
			d.V = number(c.l[len(c.l)-1].N)
		}
		x.Changes = append(x.Changes, d)
	}
	return x
}

// handRead reads s as that part; nil: it has the fault at that place.
func handRead(s, part string) (*node, int, api.Errno) {
	l, at, e := lex.Lex(s)
	if e != api.OK {
		return nil, at, e
	}
	h := hand{l: l}
	n := h.read(part)
	h.look(n, 0)
	if !n.whole {
		h.faults = append(h.faults, handFault{2 * h.at, l[h.at].At, api.ErrSyntax})
	}
	if len(h.faults) > 0 {
		f := slices.MinFunc(h.faults, func(a, b handFault) int { return a.found - b.found })
		return nil, f.place, f.e
	}
	return n.kids[0], 0, api.OK
}

// byAnotherHand holds Parse and Cond against the other hand's, and tells whether one of them took s.
func byAnotherHand(t *testing.T, s string) bool {
	t.Helper()
	n, at, e := handRead(s, "WHOLE")
	if e == api.OK {
		parses(t, s, n.stmt())
	} else {
		parsesNone(t, s, e, at)
	}
	m, bt, f := handRead(s, "WHOLECOND")
	want := api.Cond{}
	if f == api.OK {
		want = m.cond()
	}
	if c, at, e := parse.Cond(s); e != f || at != bt || showCond(c) != showCond(want) {
		t.Errorf("Cond(%q): %s, %d, %d, want %s, %d, %d", cut(s), showCond(c), at, int(e), showCond(want), bt, int(f))
	}
	return e == api.OK || f == api.OK
}

// handText is a statement's text by another hand, each part with a blank ahead: such as belong to its verb.
func handText(x api.Stmt) string {
	s := x.Verb + " " + x.Coll
	switch x.Verb {
	case "index", "unindex":
		s += handPath(x.Path)
	case "insert", "replace", "get":
		s += handValue(x.V)
	}
	if x.Where.Op != "" {
		s += " where" + handCond(x.Where)
	}
	for i, o := range x.Order {
		s += []string{" order by", " ,"}[min(i, 1)] + handPath(o.Path)
		if o.Desc {
			s += " desc"
		}
	}
	if x.Limit != 0 {
		s += fmt.Sprint(" limit ", x.Limit)
	}
	for i, p := range x.Show {
		s += []string{" show", " ,"}[min(i, 1)] + handPath(p)
	}
	for i, c := range x.Changes {
		s += []string{" ", " , "}[min(i, 1)] + c.Do + handPath(c.Path)
		switch c.Do {
		case "set":
			s += " =" + handValue(c.V)
		case "push", "add":
			s += handValue(c.V)
		}
	}
	return s
}

func handPath(p string) string { return " " + strings.ReplaceAll(p, ".", " . ") }

func handValue(v api.Val) string {
	switch v.Kind {
	case api.Null:
		return " null"
	case api.Bool:
		return fmt.Sprint(" ", v.N == 1)
	case api.Int:
		return fmt.Sprint(" ", v.N)
	case api.Text:
		q, _ := utf.Quote(v.S)
		return " " + q
	}
	var l []string
	for _, x := range v.L {
		l = append(l, handValue(x))
	}
	for _, f := range v.F {
		l = append(l, handValue(text(f.Name))+" :"+handValue(f.V))
	}
	if v.Kind == api.List {
		return " [" + strings.Join(l, " ,") + " ]"
	}
	return " {" + strings.Join(l, " ,") + " }"
}

func handCond(c api.Cond) string {
	var l []string
	for _, x := range c.L {
		s := handCond(x)
		switch c.Op + " " + x.Op {
		case "and or", "and and", "or or", "not or", "not and":
			s = " (" + s + " )"
		}
		l = append(l, s)
	}
	switch c.Op {
	case "or", "and":
		return strings.Join(l, " "+c.Op)
	case "not":
		return " not" + l[0]
	case "exists":
		return handPath(c.Path) + " exists"
	}
	return handPath(c.Path) + " " + c.Op + handValue(c.V)
}
