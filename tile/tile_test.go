package tile

import (
	"math"
	"math/rand"
	"slices"
	"strings"
	"sync"
	"testing"

	"mosaicist/api"
	"mosaicist/mini"
)

func number(n int) api.Value  { return api.Value{Kind: api.KindInt, N: n} }
func text(s string) api.Value { return api.Value{Kind: api.KindBytes, S: s} }

var (
	nothing = api.Value{}
	no      = api.Value{Kind: api.KindBool}
	yes     = api.Value{Kind: api.KindBool, N: 1}
)

// most are as many bytes as a value may have.
var most = strings.Repeat("m", 60)

// noughts are so many bytes of noughts.
func noughts(n int) string { return strings.Repeat("\x00", n) }

// some is a schema of all kinds of columns; the last three may be nothing.
var some = api.Schema{Name: "t", Cols: []api.Col{
	{Name: "id", Kind: api.KindInt}, {Name: "x", Kind: api.KindBytes}, {Name: "y", Kind: api.KindBool},
	{Name: "n", Kind: api.KindInt, Null: true}, {Name: "s", Kind: api.KindBytes, Null: true}, {Name: "b", Kind: api.KindBool, Null: true},
}}

// first is a schema of the first columns of some, so many; there are eight, of which the last two are once more numbers and bytes.
func first(cols int) api.Schema {
	all := append(slices.Clone(some.Cols), api.Col{Name: "m", Kind: api.KindInt}, api.Col{Name: "r", Kind: api.KindBytes})
	return api.Schema{Name: "t", Cols: all[:cols]}
}

// rowsOf is what stands in a tile's eight places; nil where there is no row.
type rowsOf [8][]api.Value

// few is a tile's rows of the first four columns: in the places 0, 1 and 6.
var few = rowsOf{
	0: {number(7), text("ab"), yes, number(-1)},
	1: {number(-9), text(""), no, nothing},
	6: {number(math.MinInt), text(most), yes, number(0)},
}

// deep is rows in memory of their own.
func deep(rows rowsOf) rowsOf {
	for slot := range rows {
		rows[slot] = slices.Clone(rows[slot])
	}
	return rows
}

// copied is a tile in memory of its own.
func copied(t api.Tile) api.Tile {
	return api.Tile{Split: deepSplit(t.Split), Live: t.Live, Minis: slices.Clone(t.Minis)}
}

// deepSplit is lists in memory of their own.
func deepSplit(l [][]int) [][]int {
	var all [][]int
	for _, group := range l {
		all = append(all, slices.Clone(group))
	}
	return all
}

// same tells whether two tiles are alike.
func same(a, b api.Tile) bool {
	return a.Live == b.Live && slices.EqualFunc(a.Split, b.Split, slices.Equal) && slices.Equal(a.Minis, b.Minis)
}

// tileOf is the tile of these rows by the chapter's words: a bit for each, each group's bytes for themselves.
func tileOf(s api.Schema, l [][]int, rows rowsOf) api.Tile {
	t := api.Tile{Split: l}
	for slot, power := range []int{1, 2, 4, 8, 16, 32, 64, 128} {
		if rows[slot] != nil {
			t.Live += power
		}
	}
	for _, group := range l {
		cells := make([][]api.Value, 8)
		for slot := range cells {
			for _, col := range group {
				v := nothing
				if rows[slot] != nil {
					v = rows[slot][col]
				}
				cells[slot] = append(cells[slot], v)
			}
		}
		t.Minis = append(t.Minis, mini.Print(s, group, cells))
	}
	return t
}

// freeOf is the first place without a row.
func freeOf(rows rowsOf) int {
	return slices.IndexFunc(rows[:], func(r []api.Value) bool { return r == nil })
}

// ends are places and columns that there never are.
var ends = []int{-1, -2, -8, 8, 9, 16, 63, 64, 65, 255, 256, 1 << 32, math.MaxInt, math.MinInt}

// wantRows wants a tile to be that of these rows, byte by byte, and each of its places and cells to be told so.
func wantRows(t *testing.T, what string, s api.Schema, x api.Tile, l [][]int, rows rowsOf) {
	t.Helper()
	if want := tileOf(s, l, rows); !same(x, want) {
		t.Fatalf("%s: %x, want %x", what, x, want)
	}
	if got := Free(x); got != freeOf(rows) {
		t.Fatalf("%s: %d is free, want %d", what, got, freeOf(rows))
	}
	for slot, want := range rows {
		if got := Taken(x, slot); got != (want != nil) {
			t.Fatalf("%s: place %d is taken: %t", what, slot, got)
		}
		if got, is := Row(s, x, slot); is != (want != nil) || !slices.Equal(got, want) {
			t.Fatalf("%s: row %d is %x, %t, want %x", what, slot, got, is, want)
		}
		for col := range s.Cols {
			v, is := Cell(s, x, slot, col)
			if is != (want != nil) || !is && v != nothing || is && v != want[col] {
				t.Fatalf("%s: cell %d of row %d is %x, %t, want %x", what, col, slot, v, is, want)
			}
		}
	}
}

// splits are all splits of so many columns.
func splits(cols int) [][][]int {
	if cols == 0 {
		return [][][]int{nil}
	}
	var all [][][]int
	for _, l := range splits(cols - 1) {
		for i := range l {
			more := deepSplit(l)
			more[i] = append(more[i], cols-1)
			all = append(all, more)
		}
		all = append(all, append(deepSplit(l), []int{cols - 1}))
	}
	return all
}

// anySplit is a split of so many columns.
func anySplit(r *rand.Rand, cols int) [][]int {
	all := splits(cols)
	return all[r.Intn(len(all))]
}

// noSplits are what are no splits of four columns.
var noSplits = [][][]int{
	nil, {}, {{}}, {{0}}, {{0, 1, 2}}, {{0}, {1}, {2}}, {{0, 1, 2, 3, 4}}, {{0, 1, 2, 3}, {4}}, {{0, 1, 2, 3}, {}}, {{}, {0, 1, 2, 3}}, {{0, 1, 2, 3}, nil},
	{{0, 1, 2, 2}}, {{0, 1, 2, 3, 3}}, {{0, 1}, {1, 2, 3}}, {{0}, {0}, {1}, {2}, {3}}, {{1, 2, 3}, {0}}, {{0, 2, 1, 3}}, {{0}, {2}, {1}, {3}}, {{3}, {2}, {1}, {0}}, {{0, 1}, {3, 2}},
	{{1, 2, 3}}, {{1, 2, 3, 4}}, {{-1, 0, 1, 2}}, {{0, 1, 2, -1}}, {{0}, {1}, {2}, {4}}, {{0}, {1}, {2}, {math.MaxInt}}, {{math.MinInt}, {0}, {1}, {2}},
	{{0, 1, 2, 3}, {0, 1, 2, 3}}, {{0, 1, 2, 3, 4, 5, 6, 7, 8}}, make([][]int, 300), {make([]int, 300)},
}

// anyOf is a value that may stand in that column.
func anyOf(r *rand.Rand, c api.Col) api.Value {
	if c.Null && r.Intn(3) == 0 {
		return nothing
	}
	switch c.Kind {
	case api.KindInt:
		return number([]int{0, 1, -1, 256, math.MaxInt, math.MinInt, int(r.Uint64())}[r.Intn(7)])
	case api.KindBool:
		return []api.Value{no, yes}[r.Intn(2)]
	}
	b := make([]byte, []int{0, 1, 59, 60, r.Intn(61)}[r.Intn(5)])
	r.Read(b)
	return text(string(b))
}

// anyRow is a row that may be.
func anyRow(r *rand.Rand, s api.Schema) []api.Value {
	var all []api.Value
	for _, c := range s.Cols {
		all = append(all, anyOf(r, c))
	}
	return all
}

// anyRows are some places with rows.
func anyRows(r *rand.Rand, s api.Schema) rowsOf {
	var rows rowsOf
	for slot := range rows {
		if r.Intn(3) > 0 {
			rows[slot] = anyRow(r, s)
		}
	}
	return rows
}

// made is a tile of these rows, as the calls make it: all places are filled, and what is too many dropped.
func made(t *testing.T, s api.Schema, l [][]int, rows rowsOf) api.Tile {
	t.Helper()
	x, err := New(s, l), api.OK
	for _, r := range rows {
		if r == nil {
			r = anyRow(rand.New(rand.NewSource(1)), s)
		}
		if x, _, err = Add(s, x, r); err != api.OK {
			t.Fatalf("%x isn't added: %d", r, err)
		}
	}
	for slot, r := range rows {
		if r == nil {
			if x, err = Drop(s, x, slot); err != api.OK {
				t.Fatalf("row %d isn't dropped: %d", slot, err)
			}
		}
	}
	return x
}

// P10.1: New

// TestNew goes through all splits of 1 to 8 columns.
func TestNew(t *testing.T) {
	for cols := 1; cols <= 8; cols++ {
		s := first(cols)
		for _, l := range splits(cols) {
			wantRows(t, "new", s, New(s, l), l, rowsOf{})
		}
	}
}

// TestNewHasNoughtsAlone wants a bit for each cell, and each one's bytes, all noughts.
func TestNewHasNoughtsAlone(t *testing.T) {
	for _, c := range []struct {
		l     [][]int
		sizes []int
	}{
		{[][]int{{0, 1, 2, 3, 4, 5}}, []int{6 + 8*24}}, {[][]int{{0}, {1}, {2}, {3}, {4}, {5}}, []int{65, 25, 9, 65, 25, 9}},
		{[][]int{{0, 3}, {1, 4}, {2, 5}}, []int{2 + 8*16, 2 + 8*6, 2 + 8*2}}, {[][]int{{0, 2}, {1}, {3, 4, 5}}, []int{2 + 8*9, 25, 3 + 8*12}},
	} {
		want := api.Tile{Split: c.l}
		for _, size := range c.sizes {
			want.Minis = append(want.Minis, noughts(size))
		}
		if got := New(some, c.l); !same(got, want) {
			t.Errorf("%x: %x", c.l, got)
		}
	}
}

// TestNewOfNoSplit wants no panic, and an empty tile, of lists that are no splits.
func TestNewOfNoSplit(t *testing.T) {
	for _, l := range noSplits {
		x := New(first(4), l)
		if x.Live != 0 || Free(x) != 0 || len(x.Minis) != len(l) || !slices.EqualFunc(x.Split, l, slices.Equal) {
			t.Errorf("%x: %x", l, x)
		}
		callAll(first(4), x, l, []api.Value{number(1), text(""), no, nothing})
	}
}

// P10.1: Taken and Free

// TestTakenAndFree goes through all places that may be taken.
func TestTakenAndFree(t *testing.T) {
	for live := range 256 {
		x := api.Tile{Live: live}
		free := -1
		for slot := 7; slot >= 0; slot-- {
			want := live/(1<<slot)%2 == 1
			if got := Taken(x, slot); got != want {
				t.Errorf("of %08b place %d is taken: %t", live, slot, got)
			}
			if !want {
				free = slot
			}
		}
		for _, slot := range ends {
			if Taken(x, slot) {
				t.Errorf("of %08b place %d is taken", live, slot)
			}
		}
		if got := Free(x); got != free {
			t.Errorf("of %08b %d is free, want %d", live, got, free)
		}
	}
}

// TestTakenAndFreeOfMore wants bits that are no place's to tell nothing.
func TestTakenAndFreeOfMore(t *testing.T) {
	for _, c := range []struct{ live, free int }{
		{-1, -1}, {math.MinInt, 0}, {math.MaxInt, -1}, {256, 0}, {511, -1}, {256 + 1, 1}, {1<<62 + 127, 7}, {-2, 0}, {-129, 7}, {-256, 0},
	} {
		x := api.Tile{Live: c.live}
		if got := Free(x); got != c.free {
			t.Errorf("of %x %d is free, want %d", c.live, got, c.free)
		}
		for _, slot := range ends {
			if Taken(x, slot) {
				t.Errorf("of %x place %d is taken", c.live, slot)
			}
		}
	}
}

// P10.1: Cell and Row

func TestCellAndRow(t *testing.T) {
	s := first(4)
	for _, l := range splits(4) {
		x := made(t, s, l, few)
		wantRows(t, "few", s, x, l, few)
		if v, is := Cell(s, x, 1, 3); !is || v != nothing {
			t.Errorf("%x: nothing is %x, %t", l, v, is)
		}
		if v, is := Cell(s, x, 6, 1); !is || v != text(most) {
			t.Errorf("%x: the longest is %x, %t", l, v, is)
		}
	}
}

// TestCellOfNone wants no cell of places and columns that there aren't, and no row.
func TestCellOfNone(t *testing.T) {
	s := first(4)
	for _, l := range splits(4) {
		x := made(t, s, l, few)
		for _, at := range append([]int{2, 3, 4, 5, 7}, ends...) {
			if r, is := Row(s, x, at); is || len(r) != 0 {
				t.Errorf("%x: row %d is %x, %t", l, at, r, is)
			}
			for _, col := range append([]int{0, 1, 2, 3, 4}, ends...) {
				if v, is := Cell(s, x, at, col); is || v != nothing {
					t.Errorf("%x: cell %d of row %d is %x, %t", l, col, at, v, is)
				}
			}
		}
		for _, slot := range []int{0, 1, 6} {
			for _, col := range append([]int{4, 5, 7}, ends...) {
				if v, is := Cell(s, x, slot, col); is || v != nothing {
					t.Errorf("%x: cell %d of row %d is %x, %t", l, col, slot, v, is)
				}
			}
		}
	}
}

// TestRowOfAny wants rows of 1 to 6 columns as they were added, however these are grouped.
func TestRowOfAny(t *testing.T) {
	r := rand.New(rand.NewSource(101))
	for range 1000 {
		s := first(1 + r.Intn(6))
		l, rows := anySplit(r, len(s.Cols)), anyRows(r, s)
		wantRows(t, "any", s, made(t, s, l, rows), l, rows)
	}
}

// P10.1: Set

// TestSet puts each value into each cell, and wants that one alone to be another.
func TestSet(t *testing.T) {
	s := first(4)
	right := [][]api.Value{
		{number(0), number(-1), number(math.MaxInt), number(math.MinInt)}, {text(""), text("c"), text("\x00\xff"), text(most)}, {no, yes}, {nothing, number(0), number(5)},
	}
	for _, l := range splits(4) {
		x := made(t, s, l, few)
		for _, slot := range []int{0, 1, 6} {
			for col, all := range right {
				for _, v := range all {
					got, err := Set(s, x, slot, col, v)
					if err != api.OK {
						t.Fatalf("%x: cell %d of row %d isn't set to %x: %d", l, col, slot, v, err)
					}
					rows := deep(few)
					rows[slot][col] = v
					wantRows(t, "set", s, got, l, rows)
				}
			}
		}
		wantRows(t, "the one that was handed in", s, x, l, few)
	}
}

// wantRefused wants an error, and the tile that was handed in.
func wantRefused(t *testing.T, what string, got, x api.Tile, err, want api.Errno) {
	t.Helper()
	if err != want || !same(got, x) {
		t.Errorf("%s: %d, want %d, and %x of %x", what, err, want, got, x)
	}
}

// TestSetOfNone wants ErrNone of places and columns that there aren't, whatever is to stand there.
func TestSetOfNone(t *testing.T) {
	s := first(4)
	for _, l := range [][][]int{{{0, 1, 2, 3}}, {{0}, {1}, {2}, {3}}, {{0, 3}, {1, 2}}} {
		x := made(t, s, l, few)
		for _, v := range []api.Value{number(1), nothing, yes, text("a"), {Kind: 9}, text(most + "m")} {
			for _, at := range append([]int{2, 3, 4, 5, 7}, ends...) {
				got, err := Set(s, x, at, 0, v)
				wantRefused(t, "no place", got, x, err, api.ErrNone)
				got, err = Set(s, x, at, at, v)
				wantRefused(t, "no place, and no column", got, x, err, api.ErrNone)
			}
			for _, col := range append([]int{4, 5, 7}, ends...) {
				got, err := Set(s, x, 6, col, v)
				wantRefused(t, "no column", got, x, err, api.ErrNone)
			}
			got, err := Set(s, New(s, l), 0, 0, v)
			wantRefused(t, "an empty one", got, New(s, l), err, api.ErrNone)
		}
	}
}

// TestSetOfWrong wants layer 6's error of values that don't fit.
func TestSetOfWrong(t *testing.T) {
	s := first(4)
	for _, l := range [][][]int{{{0, 1, 2, 3}}, {{0}, {1}, {2}, {3}}, {{0, 3}, {1, 2}}} {
		x := made(t, s, l, few)
		for _, c := range []struct {
			col  int
			v    api.Value
			want api.Errno
		}{
			{0, nothing, api.ErrNull}, {1, nothing, api.ErrNull}, {2, nothing, api.ErrNull},
			{0, text("1"), api.ErrType}, {0, yes, api.ErrType}, {1, number(1), api.ErrType}, {1, no, api.ErrType}, {2, number(0), api.ErrType}, {2, text(""), api.ErrType}, {3, yes, api.ErrType}, {3, text("a"), api.ErrType},
			{1, text(most + "m"), api.ErrArg}, {0, text(most + "m"), api.ErrArg}, {2, api.Value{Kind: 2, N: 2}, api.ErrArg}, {0, api.Value{Kind: 1, S: "a"}, api.ErrArg}, {3, api.Value{N: 1}, api.ErrArg}, {3, api.Value{Kind: 9}, api.ErrArg}, {1, api.Value{Kind: 3, N: 1}, api.ErrArg},
		} {
			for _, slot := range []int{0, 1, 6} {
				got, err := Set(s, x, slot, c.col, c.v)
				wantRefused(t, "a value that doesn't fit", got, x, err, c.want)
			}
		}
	}
}

// P10.1: Add

// TestAdd fills a tile row by row, and wants ErrLarge of a ninth one.
func TestAdd(t *testing.T) {
	s := first(4)
	for _, l := range splits(4) {
		x, rows := New(s, l), rowsOf{}
		for n := range 8 {
			rows[n] = []api.Value{number(n), text(strings.Repeat("r", n)), []api.Value{no, yes}[n%2], nothing}
			got, slot, err := Add(s, x, rows[n])
			if slot != n || err != api.OK {
				t.Fatalf("%x: row %d is in place %d: %d", l, n, slot, err)
			}
			wantRows(t, "one more", s, got, l, rows)
			x = got
		}
		got, slot, err := Add(s, x, rows[0])
		wantRefused(t, "a ninth row", got, x, err, api.ErrLarge)
		if slot != 0 {
			t.Errorf("a ninth row: place %d", slot)
		}
	}
}

// TestAddToEachFirst wants a row in the first place that is free, whichever are.
func TestAddToEachFirst(t *testing.T) {
	s := first(4)
	l := [][]int{{0, 2}, {1}, {3}}
	for live := range 255 {
		var rows rowsOf
		for slot := range rows {
			if live>>slot&1 == 1 {
				rows[slot] = []api.Value{number(slot), text("old"), yes, number(-slot)}
			}
		}
		one := []api.Value{number(99), text("new"), no, nothing}
		got, slot, err := Add(s, made(t, s, l, rows), one)
		if want := freeOf(rows); slot != want || err != api.OK {
			t.Fatalf("of %08b: place %d, want %d: %d", live, slot, want, err)
		}
		rows[slot] = one
		wantRows(t, "a free place", s, got, l, rows)
	}
}

// TestAddOfWrong wants layer 6's error of rows that may not be, of a full tile's too.
func TestAddOfWrong(t *testing.T) {
	s := first(4)
	full := few
	for slot := range full {
		full[slot] = few[6]
	}
	for _, rows := range []rowsOf{{}, few, full} {
		x := made(t, s, [][]int{{0, 3}, {1, 2}}, rows)
		for _, c := range []struct {
			row  []api.Value
			want api.Errno
		}{
			{nil, api.ErrArg}, {[]api.Value{}, api.ErrArg}, {few[0][:3], api.ErrArg}, {append(slices.Clone(few[0]), nothing), api.ErrArg}, {make([]api.Value, 3), api.ErrArg},
			{make([]api.Value, 4), api.ErrNull}, {[]api.Value{nothing, text(""), no, nothing}, api.ErrNull}, {[]api.Value{number(1), nothing, no, nothing}, api.ErrNull},
			{[]api.Value{text("1"), text(""), no, nothing}, api.ErrType}, {[]api.Value{number(1), text(""), no, yes}, api.ErrType}, {[]api.Value{number(1), number(1), nothing, yes}, api.ErrType},
			{[]api.Value{number(1), text(most + "m"), no, nothing}, api.ErrArg}, {[]api.Value{number(1), text(""), {Kind: 2, N: 2}, nothing}, api.ErrArg}, {[]api.Value{number(1), text(""), no, {N: 1}}, api.ErrArg},
		} {
			got, slot, err := Add(s, x, c.row)
			wantRefused(t, "a row that may not be", got, x, err, c.want)
			if slot != 0 {
				t.Errorf("%x: place %d", c.row, slot)
			}
		}
	}
}

// P10.1: Drop

// TestDrop takes each row off, and wants its place to hold nothing, the others to be as they were.
func TestDrop(t *testing.T) {
	s := first(4)
	full := few
	for slot := range full {
		full[slot] = []api.Value{number(slot), text(strings.Repeat("d", slot)), yes, number(8)}
	}
	for _, l := range splits(4) {
		for _, rows := range []rowsOf{few, full} {
			x := made(t, s, l, rows)
			for slot := range 8 {
				got, err := Drop(s, x, slot)
				if rows[slot] == nil {
					wantRefused(t, "no row", got, x, err, api.ErrNone)
					continue
				}
				if err != api.OK {
					t.Fatalf("%x: row %d: %d", l, slot, err)
				}
				left := rows
				left[slot] = nil
				wantRows(t, "dropped", s, got, l, left)
				again, err := Drop(s, got, slot)
				wantRefused(t, "once more", again, got, err, api.ErrNone)
			}
			for _, slot := range ends {
				got, err := Drop(s, x, slot)
				wantRefused(t, "no place", got, x, err, api.ErrNone)
			}
		}
	}
}

// TestWidestRows fills tiles of eight columns of the longest bytes, in one group and in eight.
func TestWidestRows(t *testing.T) {
	s := api.Schema{Name: "t", Cols: slices.Repeat([]api.Col{{Kind: api.KindBytes}}, 8)}
	var rows rowsOf
	for slot := range rows {
		for col := range 8 {
			rows[slot] = append(rows[slot], text(strings.Repeat(string(rune('0'+8*slot+col)), 60)))
		}
	}
	one, each := [][]int{{0, 1, 2, 3, 4, 5, 6, 7}}, [][]int{{0}, {1}, {2}, {3}, {4}, {5}, {6}, {7}}
	x := made(t, s, one, rows)
	wantRows(t, "in one group", s, x, one, rows)
	y, is := Lay(s, x, each)
	if !is {
		t.Fatal("not laid")
	}
	wantRows(t, "in eight", s, y, each, rows)
}

// TestDropAll wants a tile without rows to be a new one.
func TestDropAll(t *testing.T) {
	s := first(4)
	for _, l := range splits(4) {
		x := made(t, s, l, few)
		for _, slot := range []int{1, 6, 0} {
			x, _ = Drop(s, x, slot)
		}
		if !same(x, New(s, l)) {
			t.Errorf("%x: left is %x", l, x)
		}
	}
}

// P10.1: Lay

// TestLay goes from each split of four columns to each other one, and back.
func TestLay(t *testing.T) {
	s := first(4)
	for _, from := range splits(4) {
		for _, rows := range []rowsOf{{}, few} {
			x := made(t, s, from, rows)
			for _, to := range splits(4) {
				got, is := Lay(s, x, to)
				if !is {
					t.Fatalf("from %x to %x: false", from, to)
				}
				wantRows(t, "laid", s, got, to, rows)
				if back, is := Lay(s, got, from); !is || !same(back, x) {
					t.Fatalf("from %x to %x and back: %x, %t", from, to, back, is)
				}
			}
		}
	}
}

// TestLayOfNoSplit wants false, and the tile that was handed in, of lists that are no splits of as many columns.
func TestLayOfNoSplit(t *testing.T) {
	for _, c := range []struct {
		cols int
		l    [][][]int
	}{{4, noSplits}, {4, splits(3)}, {4, splits(5)}, {1, splits(2)}, {1, noSplits[4:]}, {8, splits(7)[:50]}, {8, noSplits}, {5, splits(4)}} {
		s := first(c.cols)
		for _, from := range [][][]int{splits(c.cols)[0], splits(c.cols)[len(splits(c.cols))-1]} {
			x := made(t, s, from, rowsOf{2: anyRow(rand.New(rand.NewSource(102)), s)})
			for _, l := range c.l {
				if got, is := Lay(s, x, l); is || !same(got, x) {
					t.Errorf("%d columns, %x: %x, %t", c.cols, l, got, is)
				}
			}
		}
	}
}

// P10.2

// TestListOfRows does any calls at a tile, and at a list of rows beside it, and lays the tile anew between them: the answers are the list's.
func TestListOfRows(t *testing.T) {
	r := rand.New(rand.NewSource(103))
	for range 150 {
		s := first(1 + r.Intn(6))
		cols := len(s.Cols)
		l := anySplit(r, cols)
		x, rows := New(s, l), rowsOf{}
		for range 100 {
			slot, col, err := r.Intn(8), r.Intn(cols), api.OK
			switch r.Intn(5) {
			case 0, 1:
				one, want, at := anyRow(r, s), freeOf(rows), 0
				x, at, err = Add(s, x, one)
				if want < 0 && (err != api.ErrLarge || at != 0) || want >= 0 && (err != api.OK || at != want) {
					t.Fatalf("in place %d: %d, want place %d", at, err, want)
				}
				if want >= 0 {
					rows[at] = one
				}
			case 2:
				v := anyOf(r, s.Cols[col])
				x, err = Set(s, x, slot, col, v)
				if (err == api.OK) != (rows[slot] != nil) {
					t.Fatalf("set in place %d: %d", slot, err)
				}
				if rows[slot] != nil {
					rows = deep(rows)
					rows[slot][col] = v
				}
			case 3:
				x, err = Drop(s, x, slot)
				if (err == api.OK) != (rows[slot] != nil) {
					t.Fatalf("dropped from place %d: %d", slot, err)
				}
				rows[slot] = nil
			case 4:
				is := false
				l = anySplit(r, cols)
				if x, is = Lay(s, x, l); !is {
					t.Fatalf("%x isn't laid", l)
				}
			}
			wantRows(t, "a list of rows", s, x, l, rows)
		}
	}
}

// TestAlikeByEachSplit does the same calls, right and wrong ones, at a tile of each split: all answers are the same.
func TestAlikeByEachSplit(t *testing.T) {
	s := first(4)
	r := rand.New(rand.NewSource(104))
	for range 20 {
		tiles := []api.Tile{}
		for _, l := range splits(4) {
			tiles = append(tiles, New(s, l))
		}
		for range 40 {
			one, kind, slot, col := anyRow(r, s), r.Intn(4), r.Intn(10)-1, r.Intn(6)-1
			if r.Intn(4) == 0 {
				one[r.Intn(4)] = []api.Value{nothing, {Kind: 9}, yes, text("x")}[r.Intn(4)]
			}
			v := one[r.Intn(4)]
			var want api.Errno
			wantAt := 0
			for i, x := range tiles {
				at, err := 0, api.OK
				switch kind {
				case 0, 1:
					x, at, err = Add(s, x, one)
				case 2:
					x, err = Set(s, x, slot, col, v)
				case 3:
					x, err = Drop(s, x, slot)
				}
				if i == 0 {
					want, wantAt = err, at
				}
				if err != want || at != wantAt {
					t.Fatalf("call %d, %x: %d in place %d, by one group %d in place %d", kind, x.Split, err, at, want, wantAt)
				}
				tiles[i] = x
			}
			wantAlike(t, s, tiles)
		}
	}
}

// wantAlike wants tiles to have the same rows in the same places, and to be the same when they are laid alike.
func wantAlike(t *testing.T, s api.Schema, tiles []api.Tile) {
	t.Helper()
	for _, x := range tiles[1:] {
		if got, is := Lay(s, x, tiles[0].Split); !is || !same(got, tiles[0]) {
			t.Fatalf("%x is laid as %x, want %x", x, got, tiles[0])
		}
		for slot := -1; slot <= 8; slot++ {
			a, isA := Row(s, tiles[0], slot)
			b, isB := Row(s, x, slot)
			if isA != isB || !slices.Equal(a, b) || Taken(tiles[0], slot) != Taken(x, slot) || Free(tiles[0]) != Free(x) {
				t.Fatalf("row %d of %x is %x, want %x", slot, x, b, a)
			}
		}
	}
}

// All calls: what is handed in, what is answered, and what is no tile

// callAll does each call at a tile, with places, columns, rows and lists that there are and aren't.
func callAll(s api.Schema, x api.Tile, l [][]int, cells []api.Value) {
	New(s, l)
	Free(x)
	Lay(s, x, l)
	Add(s, x, cells)
	for _, at := range append([]int{0, 1, 2, 3, 7}, ends...) {
		Taken(x, at)
		Row(s, x, at)
		Drop(s, x, at)
		Cell(s, x, 0, at)
		Cell(s, x, at, at)
		Set(s, x, 0, at, number(1))
		Set(s, x, at, 0, nothing)
	}
}

// TestHandedInStays wants tiles, rows, lists and schemas, and their spare room, to stay as they were.
func TestHandedInStays(t *testing.T) {
	groups := [][]int{{0, 2, 70}, {1, 71}, {3, 72}, {73}, nil}
	l := [][]int{groups[0][:2], groups[1][:1], groups[2][:1], groups[3], groups[4]}[:3]
	minis := append(made(t, first(4), l, few).Minis, "room", "spare")
	cells := []api.Value{number(4), text("four"), no, nothing, number(78), yes}
	cols := slices.Clone(some.Cols)
	s := api.Schema{Name: "t", Cols: cols[:4]}
	x := api.Tile{Split: l, Live: 0b1000011, Minis: minis[:3]}
	wasGroups, wasMinis, wasCells := deepSplit(groups), slices.Clone(minis), slices.Clone(cells)
	for size := range 6 {
		callAll(s, x, l, cells[:size])
		callAll(s, x, l[:2], cells[:size])
	}
	wantRows(t, "handed in", s, x, l, few)
	rest := l[:5]
	if !slices.EqualFunc(groups, wasGroups, slices.Equal) || !slices.Equal(rest[3], groups[3]) || rest[4] != nil || !slices.Equal(minis, wasMinis) || !slices.Equal(cells, wasCells) || !slices.Equal(cols, some.Cols) {
		t.Errorf("left are %x, %x, %x, %x, %v", groups, rest, minis, cells, cols)
	}
}

// TestNothingIsKept wants a tile to stay as it is when the list and the row it was made of are others.
func TestNothingIsKept(t *testing.T) {
	s := first(4)
	l, to := [][]int{{0, 2}, {1}, {3}}, [][]int{{0}, {1, 2, 3}}
	cells := slices.Clone(few[0])
	x, _, _ := Add(s, New(s, l), cells)
	y, _ := Lay(s, x, to)
	l[0][1], l[1], to[0], to[1][0], cells[0], cells[1] = 9, nil, nil, 9, yes, nothing
	wantRows(t, "new", s, x, [][]int{{0, 2}, {1}, {3}}, rowsOf{few[0]})
	wantRows(t, "laid", s, y, [][]int{{0}, {1, 2, 3}}, rowsOf{few[0]})
}

// spoil writes into all that a tile has, and into its spare room.
func spoil(x api.Tile) {
	for i, group := range x.Split {
		_ = append(group, 98, 98)
		for at := range group {
			group[at] = 99
		}
		x.Split[i], x.Minis[i] = nil, "spoilt"
	}
	_, _ = append(x.Split, []int{97}), append(x.Minis, "spoilt")
}

// TestAnswersAreNew wants what calls answer to be free of another answer's changes.
func TestAnswersAreNew(t *testing.T) {
	s := first(4)
	l := [][]int{{0, 2}, {1}, {3}}
	x := made(t, s, l, few)
	for what, call := range map[string]func() api.Tile{
		"New":  func() api.Tile { return New(s, l) },
		"Set":  func() api.Tile { y, _ := Set(s, x, 0, 1, text("z")); return y },
		"Add":  func() api.Tile { y, _, _ := Add(s, x, few[0]); return y },
		"Drop": func() api.Tile { y, _ := Drop(s, x, 6); return y },
		"Lay":  func() api.Tile { y, _ := Lay(s, x, l); return y },
	} {
		one, other := call(), call()
		was := copied(other)
		spoil(one)
		if !same(other, was) || !same(call(), was) {
			t.Errorf("%s beside one that was changed: %x", what, other)
		}
		wantRows(t, what+", handed in", s, x, [][]int{{0, 2}, {1}, {3}}, few)
	}
	one, _ := Row(s, x, 0)
	other, _ := Row(s, x, 0)
	_ = append(one, yes, yes)
	clear(one)
	if again, is := Row(s, x, 0); !is || !slices.Equal(other, few[0]) || !slices.Equal(again, few[0]) {
		t.Errorf("a row beside one that was changed: %x, %x", other, again)
	}
}

// TestRawTiles wants no panic of what no call has made, no answer of what can't be read, and the tile that was handed in.
func TestRawTiles(t *testing.T) {
	s := first(4)
	l := [][]int{{0, 2}, {1}, {3}}
	good := made(t, s, l, few)
	for what, x := range map[string]api.Tile{
		"no bytes":                {Split: l, Live: 1},
		"too few bytes":           {Split: l, Live: 1, Minis: good.Minis[:1]},
		"too many groups' bytes":  {Split: l, Live: 1, Minis: append(slices.Clone(good.Minis), good.Minis[0])},
		"other bytes":             {Split: l, Live: 1, Minis: []string{"", "x", "\xff"}},
		"another group's bytes":   {Split: l, Live: 1, Minis: []string{good.Minis[0], good.Minis[2], good.Minis[1]}},
		"the last group's broken": {Split: l, Live: 1, Minis: []string{good.Minis[0], good.Minis[1], good.Minis[2] + "x"}},
		"no groups":               {Live: 1, Minis: good.Minis},
		"no split":                {Split: [][]int{{0, 2}, {1}}, Live: 1, Minis: good.Minis[:2]},
		"columns twice":           {Split: [][]int{{0, 2}, {1}, {3}, {1}}, Live: 1, Minis: []string{good.Minis[0], good.Minis[1], good.Minis[2], good.Minis[1]}},
		"columns there aren't":    {Split: [][]int{{0, 2}, {1}, {3, 9}, {-1}}, Live: 1, Minis: append(slices.Clone(good.Minis), good.Minis[1])},
	} {
		was := copied(x)
		callAll(s, x, l, few[0])
		if r, is := Row(s, x, 0); is || len(r) != 0 {
			t.Errorf("%s: a row %x", what, r)
		}
		if got, is := Lay(s, x, l); is || !same(got, was) {
			t.Errorf("%s: laid as %x", what, got)
		}
		got, err := Set(s, x, 0, 0, number(1))
		wantRefused(t, what, got, was, err, api.ErrForm)
		got, at, err := Add(s, x, few[0])
		wantRefused(t, what, got, was, err, api.ErrForm)
		if at != 0 {
			t.Errorf("%s: place %d", what, at)
		}
		got, err = Drop(s, x, 0)
		wantRefused(t, what, got, was, err, api.ErrForm)
	}
}

// TestRawSchemas wants no panic of schemas that may not be, and of those of other tiles.
func TestRawSchemas(t *testing.T) {
	x := made(t, first(4), [][]int{{0, 2}, {1}, {3}}, few)
	for _, s := range []api.Schema{{}, first(1), first(3), first(5), first(8), {Cols: make([]api.Col, 4)}, {Cols: make([]api.Col, 300)}, {Cols: slices.Repeat([]api.Col{{Kind: math.MinInt}}, 4)}} {
		for _, l := range append(splits(4), noSplits...) {
			callAll(s, x, l, few[0])
			callAll(s, New(s, l), l, make([]api.Value, len(s.Cols)))
		}
		callAll(s, api.Tile{Live: -1}, nil, nil)
	}
}

// TestCellAsksItsOwnGroup wants a cell to be had when no other group's bytes are there.
func TestCellAsksItsOwnGroup(t *testing.T) {
	s := first(4)
	l := [][]int{{0, 2}, {1}, {3}}
	x := made(t, s, l, few)
	x.Minis = []string{"", x.Minis[1], ""}
	for slot, r := range few {
		v, is := Cell(s, x, slot, 1)
		if is != (r != nil) || is && v != r[1] {
			t.Errorf("row %d: %x, %t", slot, v, is)
		}
		for _, col := range []int{0, 2, 3} {
			if v, is := Cell(s, x, slot, col); is || v != nothing {
				t.Errorf("cell %d of row %d without its bytes: %x", col, slot, v)
			}
		}
	}
}

func TestManyAtOnce(t *testing.T) {
	s := first(4)
	l := [][]int{{0, 2}, {1}, {3}}
	x := made(t, s, l, few)
	var all sync.WaitGroup
	for i := range 8 {
		all.Go(func() {
			for range 200 {
				y, at, err := Add(s, x, []api.Value{number(i), text("i"), no, nothing})
				z, isLaid := Lay(s, y, splits(4)[i])
				v, is := Cell(s, z, 2, 0)
				w, dropped := Drop(s, z, 2)
				back, isBack := Lay(s, w, l)
				if at != 2 || err != api.OK || !isLaid || !is || v != number(i) || dropped != api.OK || !isBack || !same(back, x) {
					t.Errorf("goroutine %d: %x of %x", i, back, x)
					return
				}
				spoil(back)
			}
		})
	}
	all.Wait()
}
