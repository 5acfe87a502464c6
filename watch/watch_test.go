package watch

import (
	"math"
	"math/rand"
	"slices"
	"strconv"
	"strings"
	"sync"
	"testing"

	"mosaicist/api"
)

// same wants a watch, each of its numbers.
func same(t *testing.T, what string, got, wanted api.Watch) {
	t.Helper()
	if got != wanted {
		t.Fatalf("%s: %+v, want %+v", what, got, wanted)
	}
}

// alike wants a list of watches.
func alike(t *testing.T, what string, got, wanted []api.Watch) {
	t.Helper()
	if !slices.Equal(got, wanted) {
		t.Fatalf("%s: %+v, want %+v", what, got, wanted)
	}
}

// unlike is a watch each of whose numbers is another one, from so many on: those of columns that there aren't, and those of b below a, too.
func unlike(table string, cols, from int) api.Watch {
	w := api.Watch{Table: table, Cols: cols}
	for a := range 8 {
		w.One[a] = from + a
		for b := range 8 {
			w.Both[a][b] = from + 100 + 10*a + b
		}
	}
	return w
}

// filled is a watch each of whose numbers is n.
func filled(cols, n int) api.Watch {
	w := api.Watch{Table: "t", Cols: cols}
	for a := range 8 {
		w.One[a] = n
		for b := range 8 {
			w.Both[a][b] = n
		}
	}
	return w
}

// counted is w with cols asked for, by another way: each number looks for itself among cols.
func counted(w api.Watch, cols []int) api.Watch {
	is := func(c int) bool { return c < w.Cols && slices.Contains(cols, c) }
	next := func(n int) int {
		if n > 999 {
			return 1000
		}
		return n + 1
	}
	for a := range 8 {
		if is(a) {
			w.One[a] = next(w.One[a])
		}
		for b := a + 1; b < 8; b++ {
			if is(a) && is(b) {
				w.Both[a][b] = next(w.Both[a][b])
			}
		}
	}
	return w
}

// set is the columns whose bits are set, rising.
func set(bits int) []int {
	var cols []int
	for c := range 8 {
		if bits>>c&1 == 1 {
			cols = append(cols, c)
		}
	}
	return cols
}

// strange are numbers that no column has, whichever columns there are.
func strange() []int {
	return []int{-1, -2, -7, -8, -256, math.MinInt32, math.MinInt32 - 1, -1 << 32, math.MinInt, math.MinInt + 1, 8, 9, 15, 16, 63, 64, 256, 257, 1 << 16, math.MaxInt32, 1 << 32, 1<<32 + 1, 1 << 62, math.MaxInt - 1, math.MaxInt}
}

// names are tables' names of any, unlike ones.
func names() []string {
	return []string{"t", "", "u", "T", "tt", "t ", "\x00", "t\x00", "\xff", "\u00e4", strings.Repeat("t", 20), strings.Repeat("t", 21), strings.Repeat("u", 1000)}
}

// P21.1

// TestKnown is the chapter's example, number by number.
func TestKnown(t *testing.T) {
	w := Touch(Touch(api.Watch{Table: "t", Cols: 3}, []int{0, 2}), []int{2})
	wanted := api.Watch{Table: "t", Cols: 3}
	wanted.One = [8]int{1, 0, 2}
	wanted.Both[0][2] = 1
	same(t, "0 and 2, then 2", w, wanted)
	half := api.Watch{Table: "t", Cols: 3}
	half.One[2] = 1
	same(t, "half of it", Fade(w), half)
}

// TestTouch asks for each set of columns, of each number of columns, in each of some orders, also more than once.
func TestTouch(t *testing.T) {
	r := rand.New(rand.NewSource(211))
	for cols := range 9 {
		for bits := range 1 << 8 {
			up := set(bits)
			down := slices.Clone(up)
			slices.Reverse(down)
			mixed := slices.Concat(up, strange(), down, up)
			r.Shuffle(len(mixed), func(i, j int) { mixed[i], mixed[j] = mixed[j], mixed[i] })
			for _, w := range []api.Watch{{Table: "t", Cols: cols}, unlike("t", cols, 900), unlike("u", cols, -5), filled(cols, 1<<40)} {
				wanted := counted(w, up)
				for _, l := range [][]int{up, down, mixed, slices.Concat(up, up), slices.Concat(down, up, down)} {
					same(t, "asked for", Touch(w, l), wanted)
				}
			}
		}
	}
}

// TestTouchPair asks for any two columns, and wants just three numbers to be one more: the pair's where the less one is the first.
func TestTouchPair(t *testing.T) {
	for a := range 8 {
		for b := a + 1; b < 8; b++ {
			w := unlike("t", 8, 0)
			wanted := w
			wanted.One[a]++
			wanted.One[b]++
			wanted.Both[a][b]++
			same(t, "rising", Touch(w, []int{a, b}), wanted)
			same(t, "falling", Touch(w, []int{b, a}), wanted)
		}
		w := unlike("t", 8, 0)
		wanted := w
		wanted.One[a]++
		same(t, "one alone, twice", Touch(w, []int{a, a}), wanted)
	}
}

// TestTouchNone asks for no column that there is, and wants nothing changed.
func TestTouchNone(t *testing.T) {
	for _, cols := range append(strange(), 0, 1, 2, 3, 4, 5, 6, 7) {
		for _, n := range []int{0, 7, 999, 1000, 1001, math.MaxInt, -1, math.MinInt} {
			w := filled(cols, n)
			same(t, "nothing asked for", Touch(w, nil), w)
			same(t, "an empty list", Touch(w, []int{}), w)
			same(t, "strange columns", Touch(w, strange()), w)
			for c := max(cols, 0); c < 8; c++ {
				same(t, "a column too many", Touch(w, []int{c, -1, c}), w)
			}
		}
	}
}

// TestTouchEdge asks for the last column, and the one behind it, of each number of columns, beyond 8 too.
func TestTouchEdge(t *testing.T) {
	for _, cols := range append(strange(), 0, 1, 2, 3, 4, 5, 6, 7) {
		w := api.Watch{Table: "t", Cols: cols}
		there := max(0, min(cols, 8))
		wanted := w
		for a := range there {
			wanted.One[a] = 1
			for b := a + 1; b < there; b++ {
				wanted.Both[a][b] = 1
			}
		}
		same(t, "all columns", Touch(w, []int{0, 1, 2, 3, 4, 5, 6, 7, 8, 9}), wanted)
		if there == 0 {
			continue
		}
		last := w
		last.One[there-1] = 1
		same(t, "the last one", Touch(w, []int{there - 1}), last)
		same(t, "and one behind it", Touch(w, []int{there, there - 1}), last)
	}
}

// TestMost wants one more of each number up to 1000, and 1000 of each above, in each place, with all others as they were.
func TestMost(t *testing.T) {
	for _, n := range []struct{ was, is int }{
		{0, 1}, {1, 2}, {500, 501}, {997, 998}, {998, 999}, {999, 1000}, {1000, 1000}, {1001, 1000}, {1 << 20, 1000}, {math.MaxInt - 1, 1000}, {math.MaxInt, 1000},
		{-1, 0}, {-2, -1}, {-1000, -999}, {math.MinInt, math.MinInt + 1},
	} {
		for a := range 8 {
			w := unlike("t", 8, 1001)
			w.One[a] = n.was
			wanted := w
			wanted.One[a] = n.is
			same(t, "a column", Touch(w, []int{a}), wanted)
			for b := a + 1; b < 8; b++ {
				w := unlike("t", 8, 0)
				w.Both[a][b] = n.was
				wanted := w
				wanted.Both[a][b] = n.is
				wanted.One[a]++
				wanted.One[b]++
				same(t, "a pair", Touch(w, []int{a, b}), wanted)
			}
		}
	}
}

// TestUpTo asks many times over, and wants each number to stay at 1000.
func TestUpTo(t *testing.T) {
	w := api.Watch{Table: "t", Cols: 4}
	for n := 1; n <= 1200; n++ {
		w = Touch(w, []int{3, 1})
		if n%2 == 0 {
			w = Touch(w, []int{1, 0})
		}
		wanted := api.Watch{Table: "t", Cols: 4}
		wanted.One = [8]int{n / 2, min(n+n/2, 1000), 0, min(n, 1000)}
		wanted.Both[0][1] = n / 2
		wanted.Both[1][3] = min(n, 1000)
		same(t, strconv.Itoa(n)+" times", w, wanted)
	}
}

// TestLong asks for very many columns at once: each counts once.
func TestLong(t *testing.T) {
	long := slices.Repeat([]int{5, 2, 9, 7, -3}, 100000)
	w := api.Watch{Table: "t", Cols: 7}
	wanted := w
	wanted.One[2], wanted.One[5], wanted.Both[2][5] = 1, 1, 1
	same(t, "a long list", Touch(w, long), wanted)
}

// TestFade wants half of each number, cut towards 0, in each place, those of columns that there aren't too.
func TestFade(t *testing.T) {
	for _, n := range []struct{ was, is int }{
		{0, 0}, {1, 0}, {2, 1}, {3, 1}, {4, 2}, {5, 2}, {999, 499}, {1000, 500}, {1001, 500}, {math.MaxInt, 1<<62 - 1}, {math.MaxInt - 1, 1<<62 - 1},
		{-1, 0}, {-2, -1}, {-3, -1}, {-5, -2}, {math.MinInt, -1 << 62}, {math.MinInt + 1, -1<<62 + 1},
	} {
		for _, cols := range append(strange(), 0, 1, 3, 7, n.was) {
			same(t, "all numbers", Fade(filled(cols, n.was)), filled(cols, n.is))
		}
		for a := range 8 {
			w, wanted := filled(3, 14), filled(3, 7)
			w.One[a], wanted.One[a] = n.was, n.is
			same(t, "a column", Fade(w), wanted)
			for b := range 8 {
				w, wanted := filled(3, 14), filled(3, 7)
				w.Both[a][b], wanted.Both[a][b] = n.was, n.is
				same(t, "a pair", Fade(w), wanted)
			}
		}
	}
}

// TestFadeOften fades until nothing is counted any more, and then once more.
func TestFadeOften(t *testing.T) {
	w := filled(8, 1000)
	for _, n := range []int{500, 250, 125, 62, 31, 15, 7, 3, 1, 0, 0} {
		w = Fade(w)
		same(t, "faded", w, filled(8, n))
	}
	for _, table := range names() {
		same(t, "nothing counted", Fade(api.Watch{Table: table, Cols: 3}), api.Watch{Table: table, Cols: 3})
		same(t, "one asked for", Fade(Touch(api.Watch{Table: table, Cols: 3}, []int{1})), api.Watch{Table: table, Cols: 3})
	}
}

// P21.2

// lists are all lists of up to so many watches of three tables, each watch another one.
func lists(most int) [][]api.Watch {
	all := [][]api.Watch{nil}
	last := all
	for at := range most {
		var longer [][]api.Watch
		for _, l := range last {
			for _, table := range []string{"t", "u", ""} {
				longer = append(longer, append(slices.Clone(l), unlike(table, at, 1000*at)))
			}
		}
		all = append(all, longer...)
		last = longer
	}
	return all
}

// without is l without a table's, by another way.
func without(l []api.Watch, table string) []api.Watch {
	var rest []api.Watch
	for _, w := range l {
		if w.Table != table {
			rest = append(rest, w)
		}
	}
	return rest
}

// with is l with w put, by another way: one by one, the first one of its table being w, and no later one of it.
func with(l []api.Watch, w api.Watch) []api.Watch {
	var all []api.Watch
	done := 0
	for _, old := range l {
		if old.Table != w.Table {
			all = append(all, old)
			continue
		}
		if done == 0 {
			all = append(all, w)
		}
		done++
	}
	if done == 0 {
		all = append(all, w)
	}
	return all
}

// TestOf wants the first one of a table as it is, whatever number of columns is asked for; a new one, if there is none.
func TestOf(t *testing.T) {
	one, two, other := unlike("t", 3, 10), unlike("t", 4, 50), unlike("u", 5, 90)
	for _, cols := range append(strange(), 0, 1, 3, 4, 5) {
		none := api.Watch{Table: "t", Cols: cols}
		for _, l := range []struct {
			l      []api.Watch
			wanted api.Watch
		}{
			{nil, none}, {[]api.Watch{}, none}, {[]api.Watch{other}, none}, {[]api.Watch{other, other}, none},
			{[]api.Watch{one}, one}, {[]api.Watch{one, two}, one}, {[]api.Watch{two, one}, two}, {[]api.Watch{other, one}, one}, {[]api.Watch{other, two, other, one}, two}, {[]api.Watch{one, other}, one},
		} {
			same(t, "of t", Of(l.l, "t", cols), l.wanted)
		}
	}
}

// TestOfEach looks for each table in all lists.
func TestOfEach(t *testing.T) {
	for _, l := range lists(4) {
		for _, table := range []string{"t", "u", "", "v"} {
			wanted := api.Watch{Table: table, Cols: 6}
			for _, w := range slices.Backward(l) {
				if w.Table == table {
					wanted = w
				}
			}
			same(t, "of "+table, Of(l, table, 6), wanted)
		}
	}
}

// TestPut puts a watch of each table into all lists.
func TestPut(t *testing.T) {
	a, b, c := unlike("a", 1, 0), unlike("b", 2, 10), unlike("c", 3, 20)
	a2, a3, b2 := unlike("a", 4, 30), unlike("a", 5, 40), unlike("b", 6, 50)
	alike(t, "into nothing", Put(nil, a), []api.Watch{a})
	alike(t, "at the end", Put([]api.Watch{a, b}, c), []api.Watch{a, b, c})
	alike(t, "at the first place", Put([]api.Watch{a, b, c}, a2), []api.Watch{a2, b, c})
	alike(t, "in the middle", Put([]api.Watch{a, b, c}, b2), []api.Watch{a, b2, c})
	alike(t, "others go", Put([]api.Watch{b, a, c, a2, a2, b2}, a3), []api.Watch{b, a3, c, b2})
	alike(t, "others of another table stay", Put([]api.Watch{a, a2, b}, c), []api.Watch{a, a2, b, c})
	for _, l := range lists(5) {
		for _, table := range []string{"t", "u", "", "v"} {
			w := unlike(table, 8, -500)
			got := Put(l, w)
			alike(t, "put", got, with(l, w))
			alike(t, "put again", Put(got, w), got)
			same(t, "of it", Of(got, table, 3), w)
		}
	}
}

// TestDrop drops each table from all lists.
func TestDrop(t *testing.T) {
	a, b, a2 := unlike("a", 1, 0), unlike("b", 2, 10), unlike("a", 4, 30)
	alike(t, "from nothing", Drop(nil, "a"), nil)
	alike(t, "all of it", Drop([]api.Watch{a, a2}, "a"), nil)
	alike(t, "each of it", Drop([]api.Watch{a, b, a2, b}, "a"), []api.Watch{b, b})
	alike(t, "none of it", Drop([]api.Watch{a, b, a2}, "c"), []api.Watch{a, b, a2})
	for _, l := range lists(5) {
		for _, table := range []string{"t", "u", "", "v"} {
			got := Drop(l, table)
			alike(t, "dropped", got, without(l, table))
			same(t, "of it", Of(got, table, 3), api.Watch{Table: table, Cols: 3})
			w := unlike(table, 8, -500)
			alike(t, "put behind it", Put(got, w), append(without(l, table), w))
		}
	}
}

// TestNames has watches of tables of any names: each is found by its own alone.
func TestNames(t *testing.T) {
	var l []api.Watch
	for i, table := range names() {
		l = Put(l, unlike(table, i, 1000*i))
	}
	for i, table := range names() {
		same(t, "of a name", Of(l, table, 99), unlike(table, i, 1000*i))
		alike(t, "dropped", Drop(l, table), slices.Concat(l[:i], l[i+1:]))
		alike(t, "put", Put(l, unlike(table, i, 1000*i)), l)
	}
	alike(t, "of another name", Drop(l, "ttt"), l)
	same(t, "of another name", Of(l, "ttt", 2), api.Watch{Table: "ttt", Cols: 2})
}

// P21.3

// TestHowOften asks for many columns of many tables, as chance has it, and wants each number to be how often it was, up to 1000.
func TestHowOften(t *testing.T) {
	r := rand.New(rand.NewSource(213))
	tables := []string{"one", "five", "eight"}
	sizes := []int{1, 5, 8}
	asks := make([][][]int, len(tables))
	var l []api.Watch
	for range 9000 {
		i := r.Intn(len(tables))
		var cols []int
		for range r.Intn(7) {
			cols = append(cols, r.Intn(sizes[i]))
		}
		asks[i] = append(asks[i], cols)
		l = Put(l, Touch(Of(l, tables[i], sizes[i]), cols))
	}
	if len(l) != len(tables) {
		t.Fatalf("%d tables, want %d", len(l), len(tables))
	}
	most := 0
	for i, table := range tables {
		wanted := api.Watch{Table: table, Cols: sizes[i]}
		for a := range 8 {
			wanted.One[a] = often(asks[i], a, a)
			for b := a + 1; b < 8; b++ {
				wanted.Both[a][b] = often(asks[i], a, b)
			}
		}
		same(t, table, Of(l, table, sizes[i]), wanted)
		most = max(most, wanted.One[0])
	}
	if most != 1000 {
		t.Errorf("nothing was asked for 1000 times, %d at most", most)
	}
}

// often is how often two columns were asked for at once, up to 1000.
func often(asks [][]int, a, b int) int {
	count := 0
	for _, cols := range asks {
		if slices.Contains(cols, a) && slices.Contains(cols, b) {
			count++
		}
	}
	return min(count, 1000)
}

// TestBounds touches and fades as chance has it, and wants each number from 0 to 1000, and no pair asked for more often than each of its columns.
func TestBounds(t *testing.T) {
	r := rand.New(rand.NewSource(214))
	w := api.Watch{Table: "t", Cols: 8}
	for range 20000 {
		if r.Intn(700) == 0 {
			w = Fade(w)
		} else {
			w = Touch(w, set(r.Intn(256)))
		}
		for a := range 8 {
			for b := range 8 {
				n := w.Both[a][b]
				if n < 0 || n > min(w.One[a], w.One[b]) || w.One[a] > 1000 || b <= a && n != 0 {
					t.Fatalf("columns %d and %d: %d, %d and %d", a, b, n, w.One[a], w.One[b])
				}
			}
		}
	}
}

// Rules that hold everywhere.

// TestAlone wants lists that are handed in as they were, their spare room too, and answers that share no memory with them.
func TestAlone(t *testing.T) {
	spare := unlike("spare", 4, 7000)
	for _, l := range lists(4) {
		for _, table := range []string{"t", "u", "", "v"} {
			for _, room := range []int{0, 1, 3} {
				all := slices.Concat(l, slices.Repeat([]api.Watch{spare}, room))
				in, before := all[:len(l)], slices.Clone(all)
				w := unlike(table, 8, -500)
				Of(in, table, 3)
				for what, out := range map[string][]api.Watch{"put": Put(in, w), "dropped": Drop(in, table)} {
					alike(t, what+", handed in", all, before)
					after := slices.Clone(out)
					for i := range all {
						all[i] = spare
					}
					alike(t, what+", answered", out, after)
					copy(all, before)
					out = out[:cap(out)]
					for i := range out {
						out[i] = spare
					}
					alike(t, what+", handed in, behind a change", all, before)
				}
			}
		}
	}
}

// TestAloneCols wants lists of columns as they were, their spare room too.
func TestAloneCols(t *testing.T) {
	all := []int{7, 2, 2, -1, 9, 0, 42, 43}
	before := slices.Clone(all)
	w := unlike("t", 8, 0)
	Touch(w, all[:6])
	if !slices.Equal(all, before) {
		t.Errorf("%v, want %v", all, before)
	}
	same(t, "handed in", w, unlike("t", 8, 0))
}

// TestTwoWays goes on with one list in two ways, where its spare room could be shared.
func TestTwoWays(t *testing.T) {
	for _, l := range lists(3) {
		base := Drop(Put(l, unlike("w", 1, 0)), "w")
		x, y := unlike("x", 2, 10), unlike("y", 3, 20)
		one, two := Put(base, x), Put(base, y)
		alike(t, "one way", one, append(slices.Clone(l), x))
		alike(t, "the other way", two, append(slices.Clone(l), y))
		alike(t, "as it was", base, l)
	}
}

func TestManyAtOnce(t *testing.T) {
	l := Put(Put(nil, unlike("t", 8, 0)), unlike("u", 8, 500))
	before := slices.Clone(l)
	var all sync.WaitGroup
	for i := range 16 {
		all.Go(func() {
			mine := l
			table := "mine" + strconv.Itoa(i)
			for n := range 200 {
				mine = Put(mine, Touch(Of(mine, table, 8), []int{n % 8, i % 8}))
				mine = Put(mine, Fade(Of(mine, "t", 8)))
			}
			wanted := api.Watch{Table: table, Cols: 8}
			for n := range 200 {
				wanted = counted(wanted, []int{n % 8, i % 8})
			}
			if got := Drop(Drop(mine, "u"), "t"); !slices.Equal(got, []api.Watch{wanted}) {
				t.Errorf("%+v, want %+v", got, wanted)
			}
		})
	}
	all.Wait()
	alike(t, "handed in", l, before)
}
