package plan_test

import (
	"fmt"
	"math/rand"
	"testing"

	"tidemark/api"
	"tidemark/plan"
	"tidemark/sample"
)

// The chapter's examples.
func TestExamples(t *testing.T) {
	plans(t, "x = 1 and y > 2", []string{"y", "x"}, "x", []byte{30, 128, 0, 0, 0, 0, 0, 0, 1}, []byte{30, 128, 0, 0, 0, 0, 0, 0, 2})
	plans(t, "x < 5 and x >= 2 and y < 1", []string{"y", "x"}, "x", keyOf("2"), keyOf("5"))
	plans(t, "x = 1 or y = 2", []string{"x"}, "id", nil, nil)
	plans(t, "", []string{}, "id", nil, nil)
}

// ways are tests of a path %[1]s that make it close, two-sided, there, or none of that, from the best one on; each with the range.
var ways = []struct {
	tests     string
	low, high []byte
}{
	{"%[1]s = 5", keyOf("5"), keyOf("6")},
	{"%[1]s > 2 and %[1]s < 7", keyOf("3"), keyOf("7")},
	{"%[1]s <= 4", []byte{30}, keyOf("5")},
	{"%[1]s != 5", nil, nil},
}

// P18.2: of two paths the better one is chosen; of two that are as good `id`, else the one that stands first.
func TestBetterOne(t *testing.T) {
	for i, a := range ways {
		for k, b := range ways {
			ofX, ofY, ofId := fmt.Sprintf(a.tests, "x"), fmt.Sprintf(b.tests, "y"), fmt.Sprintf(b.tests, "id")
			first, second := "x", "x"
			if k < i {
				first = "y"
			}
			if k <= i {
				second = "y"
			}
			chosen := map[string]struct{ low, high []byte }{"x": {a.low, a.high}, "y": {b.low, b.high}}
			for _, s := range []string{ofX + " and " + ofY, ofY + " and " + ofX} {
				if i == 3 && k == 3 {
					plans(t, s, []string{"x", "y"}, "id", nil, nil)
					continue
				}
				plans(t, s, []string{"x", "y"}, first, chosen[first].low, chosen[first].high)
				plans(t, s, []string{"y", "x"}, second, chosen[second].low, chosen[second].high)
				plans(t, s, []string{"z", "y", "z", "x", "y", "x"}, second, chosen[second].low, chosen[second].high)
			}
			if k <= i {
				plans(t, ofId+" and "+ofX, []string{"x", "y"}, "id", b.low, b.high)
			} else {
				plans(t, ofId+" and "+ofX, []string{"x", "y"}, "x", a.low, a.high)
			}
			plans(t, ofId+" and "+ofX, nil, "id", b.low, b.high)
		}
	}
}

// P18.2: `id` ahead of indexes that are as good, wherever it stands among them, and no more than those.
func TestIdAhead(t *testing.T) {
	for _, l := range [][]string{{"x"}, {"x", "id"}, {"id", "x"}, {"x", "id", "x", "id"}} {
		plans(t, "x = 1 and id = 2", l, "id", keyOf("2"), keyOf("3"))
		plans(t, "x = 1 and id > 2 and id < 4", l, "x", keyOf("1"), keyOf("2"))
		plans(t, "x > 1 and x < 4 and id > 2 and id < 4", l, "id", keyOf("3"), keyOf("4"))
		plans(t, "x > 1 and x > 2 and id >= 2", l, "x", keyOf("3"), []byte{31})
		plans(t, "x > 1 and id >= 2", l, "id", keyOf("2"), []byte{31})
		plans(t, "x > 1 and id exists", l, "x", keyOf("2"), []byte{31})
		plans(t, "x exists and id exists", l, "id", nil, nil)
	}
}

// P18.2: close is one of whose tests one is `=`, wherever it stands; two tests of one side are two-sided, `=` twice is close.
func TestCloseAndTwoSided(t *testing.T) {
	l := []string{"y", "x"}
	plans(t, "x < 9 and y > 1 and y < 3 and x = 5", l, "x", keyOf("5"), keyOf("6"))
	plans(t, "x = 5 and y = 1 and y < 3", l, "y", keyOf("1"), keyOf("2"))
	plans(t, "x = 5 and x = 7 and y > 1 and y < 3 and y < 2", l, "x", keyOf("7"), keyOf("6"))
	plans(t, "x < 5 and x < 7 and y > 1", l, "x", []byte{30}, keyOf("5"))
	plans(t, "x < 5 and x > 7 and y > 1", l, "x", keyOf("8"), keyOf("5"))
	plans(t, "x < 5 and x > 7 and y > 1 and y > 2 and y > 3", l, "y", keyOf("4"), []byte{31})
	plans(t, "x < 5 and x != 4 and y > 1", l, "y", keyOf("2"), []byte{31})
	plans(t, "x < 5 and x != 4 and x exists and x in [5] and y > 1", l, "y", keyOf("2"), []byte{31})
	plans(t, "x < 5 and (x > 2 or x = 3) and y > 1", l, "y", keyOf("2"), []byte{31})
	plans(t, "x < 5 and not x = 2 and y > 1", l, "y", keyOf("2"), []byte{31})
	plans(t, "x < 5 and (x > 2 and x = 3) and y > 1", l, "x", keyOf("3"), keyOf("4"))
	plans(t, "x in [5] and y > 1", l, "y", keyOf("2"), []byte{31})
}

// P18.2: none is there: `id`, no bounds; be it that there are no indexes, that none is named, or that what names it has no range.
func TestNoneThere(t *testing.T) {
	for _, s := range []string{"", "x exists", "x != 1", "x in [1]", "not x = 1", "x = 1 or x = 2", "x.y = 1", "z = 1 and z.y < 4", "not (x = 1 and y = 1)", "id != 1", "id in [1]", "not id = 1", "id = 1 or id = 2"} {
		for _, l := range [][]string{nil, {}, {"x"}, {"y", "x"}, {"x", "x", "x"}, {"id"}, {""}, {"x.", "\xff", "x y"}} {
			plans(t, s, l, "id", nil, nil)
		}
	}
	plans(t, "x = 1", nil, "id", nil, nil)
	plans(t, "x = 1", []string{"y", "X", "xx", "x.y", "x ", ""}, "id", nil, nil)
}

// P18.2: however many indexes there are, the first one that is best is told, with its range.
func TestManyIndexes(t *testing.T) {
	var l []string
	s := ""
	for i := range 40 {
		l = append(l, fmt.Sprint("x", i))
		s += fmt.Sprintf("x%d >= %d and ", i, i)
	}
	for i := range 40 {
		p := fmt.Sprint("x", i)
		plans(t, s+p+" = 100", l, p, keyOf("100"), keyOf("101"))
		plans(t, s+p+" < 100", l, p, keyOf(fmt.Sprint(i)), keyOf("100"))
		plans(t, p+" < 100", l, p, []byte{30}, keyOf("100"))
	}
	plans(t, s+"y = 1", l, "x0", keyOf("0"), []byte{31})
}

// P18.2: conditions and indexes by chance, held against another hand.
func TestMakeByChance(t *testing.T) {
	r := rand.New(rand.NewSource(2))
	seen := map[string]int{}
	for range 30000 {
		c, l := randomCond(r, sample.Document(r)), randomIndexes(r)
		want := makeOtherwise(c, l)
		seen[want.Index]++
		if is(t, fmt.Sprintf("Make of %s, %q", sample.ShowCond(c), l), toldPlan(plan.Make(c, l)), toldPlan(want, api.OK)); t.Failed() {
			return
		}
	}
	counted(t, seen, 100, "id", "a", "b", "z", "a.b", "b.a")
}

// P18.2: a key below low, at low, between, at high and above it; with bounds on both sides, on one and on none; low above high.
func TestHas(t *testing.T) {
	for _, c := range []struct {
		low, high []byte
		in, out   [][]byte
	}{
		{[]byte{2}, []byte{4}, [][]byte{{2}, {2, 0}, {2, 255}, {3}, {3, 255, 255}}, [][]byte{nil, {}, {0}, {1}, {1, 255, 255}, {4}, {4, 0}, {5}, {255}}},
		{[]byte{2, 0}, []byte{2, 1}, [][]byte{{2, 0}, {2, 0, 0}, {2, 0, 255}}, [][]byte{nil, {2}, {1, 9}, {2, 1}, {2, 1, 0}, {3}}},
		{nil, []byte{4}, [][]byte{nil, {}, {0}, {3, 255}}, [][]byte{{4}, {4, 0}, {5}}},
		{[]byte{2}, nil, [][]byte{{2}, {2, 0}, {255, 255}}, [][]byte{nil, {}, {0}, {1, 255}}},
		{nil, nil, [][]byte{nil, {}, {0}, {255, 255}}, nil},
		{[]byte{4}, []byte{2}, nil, [][]byte{nil, {1}, {2}, {3}, {4}, {5}}},
		{[]byte{4}, []byte{4}, nil, [][]byte{nil, {3}, {4}, {4, 0}, {5}}},
		{[]byte{4}, []byte{4, 0}, [][]byte{{4}}, [][]byte{nil, {3, 255}, {4, 0}, {5}}},
		{[]byte{0}, []byte{0, 0}, [][]byte{{0}}, [][]byte{nil, {0, 0}, {1}}},
	} {
		for _, index := range []string{"", "id", "x", "\xff"} {
			p := api.Plan{Index: index, Low: c.low, High: c.high}
			for _, k := range c.in {
				if !plan.Has(p, k) {
					t.Errorf("Has(%v, %v): false", p, k)
				}
			}
			for _, k := range c.out {
				if plan.Has(p, k) {
					t.Errorf("Has(%v, %v): true", p, k)
				}
			}
		}
	}
}

// P18.2: bounds and keys by chance, held against another hand: texts are ordered byte by byte, too.
func TestHasByChance(t *testing.T) {
	r := rand.New(rand.NewSource(3))
	seen := map[string]int{}
	random := func() []byte {
		var b []byte
		for range r.Intn(4) {
			b = append(b, one[byte](r, 0, 1, 254, 255))
		}
		return b
	}
	for range 20000 {
		low, high, k := random(), random(), random()
		want := string(low) <= string(k) && (len(high) == 0 || string(k) < string(high))
		got := plan.Has(api.Plan{Low: low, High: high}, k)
		seen[fmt.Sprint(got)]++
		if got != want {
			t.Fatalf("Has(%v, %v, %v): %v", low, high, k, got)
		}
	}
	counted(t, seen, 2000, "true", "false")
}
