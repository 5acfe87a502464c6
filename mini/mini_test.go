package mini

import (
	"encoding/binary"
	"math"
	"math/rand"
	"slices"
	"strconv"
	"strings"
	"sync"
	"testing"

	"mosaicist/api"
)

func number(n int) api.Value  { return api.Value{Kind: api.KindInt, N: n} }
func text(s string) api.Value { return api.Value{Kind: api.KindBytes, S: s} }

var (
	nothing = api.Value{}
	no      = api.Value{Kind: api.KindBool}
	yes     = api.Value{Kind: api.KindBool, N: 1}
)

// most are as many bytes as a value may have.
var most = strings.Repeat("m", 60)

// noughts are so many bytes of noughts.
func noughts(n int) string { return strings.Repeat("\x00", n) }

// some is a schema of all kinds of columns: 0 a number, 1 bytes, 2 yes or no, and once more, so that these may be nothing.
var some = api.Schema{Name: "t", Cols: []api.Col{
	{Name: "id", Kind: api.KindInt}, {Name: "x", Kind: api.KindBytes}, {Name: "y", Kind: api.KindBool},
	{Name: "n", Kind: api.KindInt, Null: true}, {Name: "s", Kind: api.KindBytes, Null: true}, {Name: "b", Kind: api.KindBool, Null: true},
}}

// spot is a cell: its place, which of the group's columns, and what stands there.
type spot struct {
	slot, at int
	v        api.Value
}

// with is cells of so many columns with these in them, and nothing else.
func with(cols int, spots ...spot) [][]api.Value {
	cells := make([][]api.Value, 8)
	for i := range cells {
		cells[i] = make([]api.Value, cols)
	}
	for _, c := range spots {
		cells[c.slot][c.at] = c.v
	}
	return cells
}

// deep is cells in memory of their own.
func deep(cells [][]api.Value) [][]api.Value {
	var all [][]api.Value
	for _, place := range cells {
		all = append(all, slices.Clone(place))
	}
	return all
}

// same tells whether two lists of cells are alike.
func same(a, b [][]api.Value) bool { return slices.EqualFunc(a, b, slices.Equal) }

// mayBe holds a cell against the words of chapters 4 and 9, one by one.
func mayBe(kind int, v api.Value) bool {
	isNothing := v.Kind == 0 && v.N == 0 && v.S == ""
	isNumber := v.Kind == 1 && v.S == ""
	isBool := v.Kind == 2 && (v.N == 0 || v.N == 1) && v.S == ""
	isBytes := v.Kind == 3 && v.N == 0 && len(v.S) <= 60
	return isNothing || v.Kind == kind && (isNumber || isBool || isBytes)
}

// allMayBe tells whether all of them are a group's cells.
func allMayBe(s api.Schema, group []int, cells [][]api.Value) bool {
	for _, place := range cells {
		for i, v := range place {
			if len(place) != len(group) || !mayBe(s.Cols[group[i]].Kind, v) {
				return false
			}
		}
	}
	return len(cells) == 8
}

// bytesOf tells the bytes of cells by another way: the marks as a number written bit by bit, each part for itself.
func bytesOf(s api.Schema, group []int, cells [][]api.Value) string {
	bits, fixed, heap := "", []byte(nil), ""
	for _, place := range cells {
		for i, v := range place {
			bit := "1"
			if v == nothing {
				bit = "0"
			}
			bits += bit
			switch s.Cols[group[i]].Kind {
			case 1:
				fixed = binary.BigEndian.AppendUint64(fixed, uint64(v.N))
			case 2:
				fixed = append(fixed, byte(v.N))
			case 3:
				begin := len(heap)
				if len(v.S) == 0 {
					begin = 0
				}
				fixed = append(binary.BigEndian.AppendUint16(fixed, uint16(begin)), byte(len(v.S)))
				heap += v.S
			}
		}
	}
	return marksOf(bits) + string(fixed) + heap
}

// marksOf is bits, the first one first, in bytes, each one's lowest first.
func marksOf(bits string) string {
	var marks []byte
	for len(bits) > 0 {
		size := min(8, len(bits))
		turned := []byte(bits[:size])
		slices.Reverse(turned)
		n, _ := strconv.ParseUint(string(turned), 2, 8)
		marks = append(marks, byte(n))
		bits = bits[size:]
	}
	return string(marks)
}

// anyGroup is up to so many columns of some, in any order, also twice.
func anyGroup(r *rand.Rand, most int) []int {
	group := make([]int, r.Intn(most+1))
	for i := range group {
		group[i] = r.Intn(len(some.Cols))
	}
	return group
}

// anyValue is nothing, or of that kind.
func anyValue(r *rand.Rand, kind int) api.Value {
	if r.Intn(3) == 0 {
		return nothing
	}
	switch kind {
	case api.KindInt:
		return number([]int{0, 1, -1, 255, 256, -256, math.MaxInt, math.MinInt, int(r.Uint64())}[r.Intn(9)])
	case api.KindBool:
		return []api.Value{no, yes}[r.Intn(2)]
	}
	b := make([]byte, []int{0, 1, 2, 59, 60, r.Intn(61)}[r.Intn(6)])
	r.Read(b)
	return text(string(b))
}

// anyCells are any of a group's cells.
func anyCells(r *rand.Rand, group []int) [][]api.Value {
	cells := with(len(group))
	for _, place := range cells {
		for i := range place {
			place[i] = anyValue(r, some.Cols[group[i]].Kind)
		}
	}
	return cells
}

// forms are cells, and their bytes, as the chapter tells them.
var forms = []struct {
	what  string
	group []int
	cells [][]api.Value
	form  string
}{
	{"the chapter's", []int{1}, with(1, spot{2, 0, text("ab")}), "\x04" + noughts(6) + "\x00\x00\x02" + noughts(15) + "ab"},
	{"two of bytes", []int{1}, with(1, spot{2, 0, text("ab")}, spot{5, 0, text("c")}), "\x24" + noughts(6) + "\x00\x00\x02" + noughts(6) + "\x00\x02\x01" + noughts(6) + "abc"},
	{"no bytes ahead", []int{1}, with(1, spot{0, 0, text("")}, spot{7, 0, text("z")}), "\x81" + noughts(21) + "\x00\x00\x01" + "z"},
	{"no bytes behind", []int{1}, with(1, spot{0, 0, text("z")}, spot{7, 0, text("")}), "\x81" + "\x00\x00\x01" + noughts(21) + "z"},
	{"no bytes between", []int{1}, with(1, spot{0, 0, text("ab")}, spot{1, 0, text("")}, spot{2, 0, text("c")}), "\x07" + "\x00\x00\x02" + noughts(3) + "\x00\x02\x01" + noughts(15) + "abc"},
	{"no bytes alone", []int{1}, with(1, spot{3, 0, text("")}), "\x08" + noughts(24)},
	{"no bytes of two columns", []int{1, 4}, with(2, spot{0, 0, text("abc")}, spot{0, 1, text("")}, spot{1, 1, text("d")}), "\x0b\x00" + "\x00\x00\x03" + noughts(6) + "\x00\x03\x01" + noughts(36) + "abcd"},
	{"nothing of bytes", []int{1}, with(1), noughts(25)},
	{"nothing of numbers", []int{0}, with(1), noughts(65)},
	{"nothing of yes and no", []int{2}, with(1), noughts(9)},
	{"nothing of all three", []int{0, 1, 2}, with(3), noughts(3 + 8*12)},
	{"no column", []int{}, with(0), ""},
	{"no list", nil, with(0), ""},
	{"a number", []int{0}, with(1, spot{0, 0, number(1)}), "\x01\x00\x00\x00\x00\x00\x00\x00\x01" + noughts(56)},
	{"a number in the last place", []int{3}, with(1, spot{7, 0, number(256)}), "\x80" + noughts(56) + "\x00\x00\x00\x00\x00\x00\x01\x00"},
	{"0", []int{0}, with(1, spot{4, 0, number(0)}), "\x10" + noughts(64)},
	{"-1", []int{0}, with(1, spot{1, 0, number(-1)}), "\x02" + noughts(8) + "\xff\xff\xff\xff\xff\xff\xff\xff" + noughts(48)},
	{"-256", []int{0}, with(1, spot{1, 0, number(-256)}), "\x02" + noughts(8) + "\xff\xff\xff\xff\xff\xff\xff\x00" + noughts(48)},
	{"the greatest", []int{0}, with(1, spot{1, 0, number(math.MaxInt)}), "\x02" + noughts(8) + "\x7f\xff\xff\xff\xff\xff\xff\xff" + noughts(48)},
	{"the least", []int{0}, with(1, spot{1, 0, number(math.MinInt)}), "\x02" + noughts(8) + "\x80\x00\x00\x00\x00\x00\x00\x00" + noughts(48)},
	{"each byte of a number", []int{0}, with(1, spot{0, 0, number(0x0102030405060708)}), "\x01\x01\x02\x03\x04\x05\x06\x07\x08" + noughts(56)},
	{"yes, no and nothing", []int{2}, with(1, spot{0, 0, yes}, spot{1, 0, no}, spot{6, 0, yes}), "\x43\x01\x00\x00\x00\x00\x00\x01\x00"},
	{"a number, and yes", []int{0, 2}, with(2, spot{0, 0, number(-2)}, spot{0, 1, yes}), "\x03\x00\xff\xff\xff\xff\xff\xff\xff\xfe\x01" + noughts(63)},
	{"yes, and a number", []int{2, 0}, with(2, spot{0, 0, yes}, spot{0, 1, number(-2)}), "\x03\x00\x01\xff\xff\xff\xff\xff\xff\xff\xfe" + noughts(63)},
	{"the second column alone", []int{0, 2}, with(2, spot{0, 1, yes}), "\x02\x00" + noughts(8) + "\x01" + noughts(63)},
	{"the second place alone", []int{0, 2}, with(2, spot{1, 0, number(7)}), "\x04\x00" + noughts(16) + "\x07" + noughts(55)},
	{"the fifth place", []int{2, 5}, with(2, spot{4, 0, no}, spot{4, 1, yes}), "\x00\x03" + noughts(9) + "\x01" + noughts(6)},
	{"the last of two columns", []int{2, 5}, with(2, spot{7, 1, no}), "\x00\x80" + noughts(16)},
	{"marks over a byte's end", []int{2, 5, 2}, with(3, spot{2, 1, yes}, spot{2, 2, yes}, spot{5, 0, no}), "\x80\x81\x00" + noughts(7) + "\x01\x01" + noughts(15)},
	{"one column twice", []int{1, 1}, with(2, spot{0, 0, text("a")}, spot{0, 1, text("b")}, spot{1, 0, text("a")}), "\x07\x00" + "\x00\x00\x01\x00\x01\x01\x00\x02\x01" + noughts(39) + "aba"},
	{"bytes that are noughts", []int{4}, with(1, spot{0, 0, text("\x00\x00")}, spot{1, 0, text("\xff")}), "\x03\x00\x00\x02\x00\x02\x01" + noughts(18) + "\x00\x00\xff"},
	{"place by place", []int{1, 0, 4}, with(3, spot{0, 0, text("ab")}, spot{0, 2, text("c")}, spot{1, 0, text("d")}, spot{1, 1, number(5)}),
		"\x1d\x00\x00" + "\x00\x00\x02" + noughts(8) + "\x00\x02\x01" + "\x00\x03\x01" + noughts(7) + "\x05" + noughts(3) + noughts(6*14) + "abcd"},
}

// noCells are what are no cells of numbers, bytes, and yes or no.
var noCells = []struct {
	what  string
	cells [][]api.Value
}{
	{"nothing", nil}, {"no place", [][]api.Value{}}, {"a place too few", with(3)[:7]}, {"a place too many", append(with(3), make([]api.Value, 3))},
	{"one place", with(3)[:1]}, {"256 places", make([][]api.Value, 256)}, {"empty places", make([][]api.Value, 8)}, {"a column too few", with(2)}, {"a column too many", with(4)},
	{"the last place a column too few", append(with(3)[:7], make([]api.Value, 2))}, {"the last place a column too many", append(with(3)[:7], make([]api.Value, 4))},
	{"the first place empty", append([][]api.Value{nil}, with(3)[1:]...)},
	{"bytes for a number", with(3, spot{0, 0, text("1")})}, {"no bytes for a number", with(3, spot{0, 0, text("")})}, {"yes for a number", with(3, spot{7, 0, yes})},
	{"a number for bytes", with(3, spot{0, 1, number(1)})}, {"0 for bytes", with(3, spot{7, 1, number(0)})}, {"no for bytes", with(3, spot{3, 1, no})},
	{"a number for yes", with(3, spot{0, 2, number(1)})}, {"0 for no", with(3, spot{7, 2, number(0)})}, {"bytes for yes", with(3, spot{1, 2, text("")})},
	{"a number with bytes", with(3, spot{0, 0, api.Value{Kind: 1, S: "a"}})}, {"a yes of 2", with(3, spot{0, 2, api.Value{Kind: 2, N: 2}})},
	{"a yes of -1", with(3, spot{0, 2, api.Value{Kind: 2, N: -1}})}, {"a yes of 257", with(3, spot{0, 2, api.Value{Kind: 2, N: 257}})}, {"a yes with bytes", with(3, spot{0, 2, api.Value{Kind: 2, N: 1, S: "a"}})},
	{"61 bytes", with(3, spot{0, 1, text(most + "m")})}, {"256 bytes", with(3, spot{0, 1, text(noughts(256))})}, {"many bytes", with(3, spot{0, 1, text(noughts(1 << 17))})},
	{"bytes with a number", with(3, spot{0, 1, api.Value{Kind: 3, N: 1, S: "a"}})}, {"nothing of 1", with(3, spot{0, 0, api.Value{N: 1}})}, {"nothing with bytes", with(3, spot{0, 1, api.Value{S: "a"}})},
	{"kind 4", with(3, spot{0, 0, api.Value{Kind: 4}})}, {"kind -1", with(3, spot{0, 1, api.Value{Kind: -1}})}, {"kind 257", with(3, spot{0, 0, api.Value{Kind: 257}})},
	{"kind 256", with(3, spot{0, 2, api.Value{Kind: 256}})}, {"the greatest kind", with(3, spot{7, 2, api.Value{Kind: math.MaxInt}})}, {"the least kind", with(3, spot{7, 2, api.Value{Kind: math.MinInt}})},
}

// noGroups are groups of columns that some hasn't got.
var noGroups = [][]int{
	{-1}, {6}, {0, 6}, {-1, 0}, {0, -1}, {256}, {257}, {1 << 32}, {math.MaxInt}, {math.MinInt}, {0, 1, 2, 3, 4, 5, 6}, {5, 5, 7},
}

// wantNone wants no cells to be read from data.
func wantNone(t *testing.T, what string, s api.Schema, group []int, data string) {
	t.Helper()
	if got, is := Read(s, group, data); is || len(got) != 0 {
		t.Errorf("%s: %.80x reads as %v, %t", what, data, got, is)
	}
}

// wantBack wants cells to be read from their own bytes, and these to be told so.
func wantBack(t *testing.T, group []int, cells [][]api.Value) {
	t.Helper()
	data := Print(some, group, cells)
	if want := bytesOf(some, group, cells); data != want {
		t.Fatalf("%v of %v: %x, want %x", cells, group, data, want)
	}
	if got, is := Read(some, group, data); !is || !same(got, cells) {
		t.Fatalf("%x of %v: %v, %t, want %v", data, group, got, is, cells)
	}
}

// P9.1: Print

func TestPrint(t *testing.T) {
	for _, c := range forms {
		if got := Print(some, c.group, c.cells); got != c.form {
			t.Errorf("%s: %x, want %x", c.what, got, c.form)
		}
		if want := bytesOf(some, c.group, c.cells); want != c.form {
			t.Errorf("%s: the other way tells %x, not %x", c.what, want, c.form)
		}
	}
}

// TestPrintEachBit puts a value into each cell of groups of 1 to 8 columns, and wants just its own bit to be set.
func TestPrintEachBit(t *testing.T) {
	for cols := 1; cols <= 8; cols++ {
		group := slices.Repeat([]int{2}, cols)
		for n := range 8 * cols {
			marks := make([]byte, cols)
			marks[n/8] = 1 << (n % 8)
			if got, want := Print(some, group, with(cols, spot{n / cols, n % cols, no})), string(marks)+noughts(8*cols); got != want {
				t.Errorf("cell %d of %d columns: %x, want %x", n, cols, got, want)
			}
		}
	}
}

// TestPrintOfWhole fills a group of eight columns of the longest bytes: where the last ones begin takes two bytes.
func TestPrintOfWhole(t *testing.T) {
	group := []int{1, 4, 1, 4, 1, 4, 1, 4}
	cells := with(8)
	heap := ""
	for n := range 64 {
		s := strings.Repeat(string(rune('0'+n)), 60)
		cells[n/8][n%8] = text(s)
		heap += s
	}
	got := Print(some, group, cells)
	if len(got) != 8+64*3+64*60 || got[:8] != strings.Repeat("\xff", 8) || got[8+64*3:] != heap {
		t.Fatalf("%d bytes: %.300x", len(got), got)
	}
	for n := range 64 {
		if at := got[8+n*3:][:3]; at[0] != byte(n*60/256) || at[1] != byte(n*60%256) || at[2] != 60 {
			t.Errorf("cell %d: %x", n, at)
		}
	}
	wantBack(t, group, cells)
}

// TestPrintOfBothEnds wants where bytes begin to be told around the end of one byte's numbers.
func TestPrintOfBothEnds(t *testing.T) {
	for _, c := range []struct {
		last int
		want string
	}{{14, "\x00\xfe\x01"}, {15, "\x00\xff\x01"}, {16, "\x01\x00\x01"}, {17, "\x01\x01\x01"}} {
		cells := with(1)
		for i := range 4 {
			cells[i][0] = text(most)
		}
		cells[4][0], cells[7][0] = text(most[:c.last]), text("e")
		if got := Print(some, []int{1}, cells); got[1+7*3:][:3] != c.want {
			t.Errorf("behind %d bytes: %x, want %x", 240+c.last, got[1+7*3:][:3], c.want)
		}
		wantBack(t, []int{1}, cells)
	}
}

func TestPrintOfAny(t *testing.T) {
	r := rand.New(rand.NewSource(91))
	for range 20000 {
		group := anyGroup(r, 16)
		wantBack(t, group, anyCells(r, group))
	}
}

// TestPrintOfNoCells wants no bytes, and no panic, of what are no cells.
func TestPrintOfNoCells(t *testing.T) {
	for _, c := range noCells {
		if got := Print(some, []int{0, 1, 2}, c.cells); got != "" {
			t.Errorf("%s: %.80x", c.what, got)
		}
	}
	for _, group := range noGroups {
		if got := Print(some, group, with(len(group))); got != "" {
			t.Errorf("of %v: %.80x", group, got)
		}
	}
	if got := Print(api.Schema{}, []int{0}, with(1)); got != "" {
		t.Errorf("of no column: %.80x", got)
	}
}

// TestPrintWhateverMayBeNothing wants a column's Null to change nothing: a cell of a place that isn't taken is nothing, too.
func TestPrintWhateverMayBeNothing(t *testing.T) {
	r := rand.New(rand.NewSource(92))
	for range 1000 {
		group := anyGroup(r, 8)
		other := make([]int, len(group))
		for i, col := range group {
			other[i] = (col + 3) % 6
		}
		cells := anyCells(r, group)
		data := Print(some, group, cells)
		if got := Print(some, other, cells); got != data {
			t.Fatalf("%v of %v: %x, of %v: %x", cells, group, data, other, got)
		}
		if got, is := Read(some, other, data); !is || !same(got, cells) {
			t.Fatalf("%v of %v: %v", cells, other, got)
		}
	}
}

// TestRawSchemas wants no panic of schemas that may not be, and of any cells.
func TestRawSchemas(t *testing.T) {
	for _, kind := range []int{0, 4, -1, 256, 257, 1 << 32, math.MaxInt, math.MinInt} {
		s := api.Schema{Cols: slices.Repeat([]api.Col{{Kind: kind}}, 20)}
		for _, group := range [][]int{{0}, {19, 3}, {20}, {}} {
			for _, cells := range [][][]api.Value{nil, with(len(group)), with(1, spot{0, 0, api.Value{Kind: kind, N: 1}}), with(2, spot{7, 1, text("a")})} {
				Print(s, group, cells)
			}
			for _, data := range []string{"", "\x00", "\xff", noughts(2), noughts(200), strings.Repeat("\xff", 200)} {
				Read(s, group, data)
			}
		}
	}
}

// P9.1: Empty

func TestEmpty(t *testing.T) {
	for _, group := range [][]int{nil, {}, {0}, {1}, {2, 0}, {1, 1}, {0, 1, 2, 3, 4, 5, 5, 0, 1}, {-1}, {math.MaxInt, math.MinInt}, make([]int, 1000)} {
		if got := Empty(group); !same(got, with(len(group))) {
			t.Errorf("of %v: %v", group, got)
		}
	}
}

// TestEmptyHasNoughtsAlone wants of nothing a bit a cell, and its column's bytes, all noughts.
func TestEmptyHasNoughtsAlone(t *testing.T) {
	for _, c := range []struct {
		group []int
		size  int
	}{{[]int{0}, 65}, {[]int{1}, 25}, {[]int{2}, 9}, {[]int{3, 4, 5}, 3 + 8*12}, {[]int{0, 0}, 130}, {nil, 0}, {[]int{0, 1, 2, 3, 4, 5, 0, 1}, 8 + 8*35}} {
		if got := Print(some, c.group, Empty(c.group)); got != noughts(c.size) {
			t.Errorf("of %v: %x, want %d noughts", c.group, got, c.size)
		}
	}
}

// TestEmptyIsNew wants places, and answers, to share nothing.
func TestEmptyIsNew(t *testing.T) {
	group := []int{0, 1, 2}
	first, second := Empty(group), Empty(group)
	for i, place := range first {
		_ = append(place, yes, yes)
		for at := range place {
			place[at] = yes
		}
		if !same(first[i+1:], with(3)[i+1:]) {
			t.Errorf("place %d changes another: %v", i, first)
		}
	}
	_ = append(first[:0], nil)
	if !same(second, with(3)) || !same(Empty(group), with(3)) {
		t.Errorf("beside one that was changed: %v", second)
	}
}

// P9.2

func TestRead(t *testing.T) {
	for _, c := range forms {
		if got, is := Read(some, c.group, c.form); !is || !same(got, c.cells) {
			t.Errorf("%s: %v, %t, want %v", c.what, got, is, c.cells)
		}
	}
}

// TestReadOfWrong wants none of bytes that are no cells', each for one reason.
func TestReadOfWrong(t *testing.T) {
	bytes := func(marks, fixed, heap string) string { return marks + fixed + noughts(24-len(fixed)) + heap }
	for _, c := range []struct {
		what string
		col  int
		data string
	}{
		{"a number without a mark", 0, "\x00" + noughts(63) + "\x01"}, {"a number beside its mark", 0, "\x02\x01" + noughts(63)}, {"a heap behind numbers", 0, noughts(65) + "\x00"},
		{"yes without a mark", 2, "\x00\x01" + noughts(7)}, {"yes of 2", 2, "\x01\x02" + noughts(7)}, {"yes of 255", 2, "\x80" + noughts(7) + "\xff"}, {"a heap behind yes and no", 2, noughts(9) + "a"},
		{"bytes without a mark", 1, bytes("\x00", "\x00\x00\x01", "a")}, {"a place without a mark", 1, bytes("\x00", "\x00\x01\x00", "")}, {"a high place without a mark", 1, bytes("\x00", "\x01\x00\x00", "")},
		{"no bytes behind the first place", 1, bytes("\x01", "\x00\x01\x00", "")}, {"no bytes behind a high place", 1, bytes("\x01", "\x01\x00\x00", "")},
		{"no bytes where they would be", 1, bytes("\x03", "\x00\x00\x02\x00\x02\x00", "ab")}, {"no bytes at the end", 1, bytes("\x07", "\x00\x00\x02\x00\x00\x00\x00\x00\x01", "abc")},
		{"a place too low", 1, bytes("\x03", "\x00\x00\x02\x00\x01\x01", "abc")}, {"a place too high", 1, bytes("\x03", "\x00\x00\x02\x00\x03\x01", "abc")},
		{"a place too high for the first", 1, bytes("\x01", "\x00\x01\x02", "abc")}, {"a place by 256 too high", 1, bytes("\x03", "\x00\x00\x02\x01\x02\x01", "abc")},
		{"the lowest byte first", 1, bytes("\x03", "\x00\x00\x02\x02\x00\x01", "abc")}, {"two that share", 1, bytes("\x03", "\x00\x00\x02\x00\x00\x02", "ab")}, {"two in the other order", 1, bytes("\x03", "\x00\x01\x02\x00\x00\x01", "abb")},
		{"a heap too short", 1, bytes("\x01", "\x00\x00\x02", "a")}, {"no heap", 1, bytes("\x01", "\x00\x00\x01", "")}, {"a heap too short for the second", 1, bytes("\x03", "\x00\x00\x02\x00\x02\x02", "abc")},
		{"a heap of none", 1, bytes("\x00", "", "a")}, {"a heap too long", 1, bytes("\x01", "\x00\x00\x02", "abc")}, {"a nought behind", 1, bytes("\x01", "\x00\x00\x02", "ab\x00")},
		{"61 bytes", 1, bytes("\x01", "\x00\x00\x3d", most+"m")}, {"255 bytes", 1, bytes("\x01", "\x00\x00\xff", noughts(255))}, {"61 bytes behind others", 1, bytes("\x03", "\x00\x00\x02\x00\x02\x3d", "ab"+most+"m")},
	} {
		wantNone(t, c.what, some, []int{c.col}, c.data)
		wantNone(t, c.what, some, []int{c.col + 3}, c.data)
	}
	if got, is := Read(some, []int{1}, bytes("\x01", "\x00\x00\x3c", most)); !is || got[0][0] != text(most) {
		t.Errorf("60 bytes: %v, %t", got, is)
	}
}

// TestReadOfOtherSizes wants none of what ends too early, and of what goes on.
func TestReadOfOtherSizes(t *testing.T) {
	for _, c := range forms {
		for size := range len(c.form) {
			wantNone(t, c.what+", too short", some, c.group, c.form[:size])
		}
		for _, behind := range []string{"\x00", "x", "\xff", noughts(8), noughts(256), c.form + "\x00"} {
			wantNone(t, c.what+", too long", some, c.group, c.form+behind)
		}
	}
}

// TestReadOfOtherGroups wants bytes to be read by columns of their own kinds alone.
func TestReadOfOtherGroups(t *testing.T) {
	groups := [][]int{nil, {0}, {1}, {2}, {0, 1}, {1, 0}, {0, 2}, {2, 0}, {1, 2}, {2, 1}, {1, 1}, {2, 2}, {0, 1, 2}}
	for _, group := range groups {
		data := Print(some, group, with(len(group)))
		for _, other := range groups {
			got, is := Read(some, other, data)
			if want := len(data) == len(Print(some, other, with(len(other)))); is != want || is && !same(got, with(len(other))) {
				t.Errorf("of %v by %v: %v, %t", group, other, got, is)
			}
		}
	}
}

// TestReadOfNoGroup wants none of columns that aren't there.
func TestReadOfNoGroup(t *testing.T) {
	for _, group := range noGroups {
		for _, data := range []string{"", "\x00", noughts(9), noughts(25), noughts(65), noughts(130), noughts(7 + 8*35)} {
			wantNone(t, "no such column", some, group, data)
		}
	}
	wantNone(t, "no schema", api.Schema{}, []int{0}, noughts(65))
	wantNone(t, "a great group of few bytes", some, make([]int, 1<<20), noughts(1000))
	wantNone(t, "a great group of none", some, make([]int, 1<<20), "")
}

// TestReadIsNew wants one answer to be free of another's changes, and its places of each other's.
func TestReadIsNew(t *testing.T) {
	for _, c := range forms {
		first, _ := Read(some, c.group, c.form)
		second, _ := Read(some, c.group, c.form)
		for i, place := range first {
			_ = append(place, yes, yes)
			for at := range place {
				place[at] = api.Value{Kind: 9}
			}
			if !same(first[i+1:], c.cells[i+1:]) {
				t.Errorf("%s: place %d changes another: %v", c.what, i, first)
			}
		}
		_ = append(first[:0], nil)
		if third, _ := Read(some, c.group, c.form); !same(second, c.cells) || !same(third, c.cells) {
			t.Errorf("%s: beside one that was changed: %v, %v", c.what, second, third)
		}
	}
}

// wantOneForm wants data, if cells are read of it, to be just those ones' bytes.
func wantOneForm(t *testing.T, group []int, data string) bool {
	t.Helper()
	got, is := Read(some, group, data)
	if !is && len(got) != 0 {
		t.Fatalf("%x of %v: none, and %v", data, group, got)
	}
	if is && (!allMayBe(some, group, got) || bytesOf(some, group, got) != data) {
		t.Fatalf("%x of %v reads as %v", data, group, got)
	}
	return is
}

// TestOneFormOfEachByte puts each byte into each place of a few cells' bytes: what is read has just these.
func TestOneFormOfEachByte(t *testing.T) {
	good := 0
	for _, c := range forms {
		for at := range len(c.form) {
			for b := range 256 {
				form := []byte(c.form)
				form[at] = byte(b)
				if wantOneForm(t, c.group, string(form)) {
					good++
				}
			}
		}
	}
	if good < 10000 {
		t.Errorf("only %d of them are cells'", good)
	}
}

// TestOneFormOfMarks goes through all marks and all of yes, no and another one in two places: those cells are read that there are, and no others.
func TestOneFormOfMarks(t *testing.T) {
	for marks := range 256 {
		for _, two := range []string{"\x00\x00", "\x00\x01", "\x01\x00", "\x01\x01", "\x00\x02", "\x02\x00", "\x01\x80"} {
			data := string([]byte{byte(marks)}) + two + noughts(6)
			want := two[0] <= byte(marks&1) && two[1] <= byte(marks>>1&1)
			if got := wantOneForm(t, []int{2}, data); got != want {
				t.Errorf("%x: %t, want %t", data, got, want)
			}
		}
	}
}

func TestOneFormOfAnyBytes(t *testing.T) {
	r := rand.New(rand.NewSource(93))
	for range 50000 {
		group := anyGroup(r, 4)
		data := []byte(Print(some, group, anyCells(r, group)))
		for range r.Intn(3) {
			if len(data) > 0 {
				data[r.Intn(len(data))] ^= 1 << r.Intn(8)
			}
		}
		wantOneForm(t, group, string(data))
		wantOneForm(t, anyGroup(r, 4), string(data))
	}
}

// TestGreatGroups wants groups of many columns, whose bytes begin further behind than two bytes tell, to go there and back too: where they begin wraps round.
func TestGreatGroups(t *testing.T) {
	for _, cols := range []int{136, 137, 138, 300} {
		group := slices.Repeat([]int{1}, cols)
		cells := with(cols)
		for _, place := range cells {
			for i := range place {
				place[i] = text(most)
			}
		}
		wantBack(t, group, cells)
	}
}

// P9.3

// TestThereAndBack wants all cells of a few columns' few values to be read of their own bytes, and no two to have the same.
func TestThereAndBack(t *testing.T) {
	few := [][]api.Value{1: {nothing, number(0), number(1), number(-1)}, 2: {nothing, no, yes}, 3: {nothing, text(""), text("\x00"), text("a"), text("aa")}}
	for _, group := range [][]int{{0}, {1}, {2}, {2, 1}, {0, 2}, {1, 1}, {4, 0, 5}} {
		seen := map[string]bool{}
		r := rand.New(rand.NewSource(94))
		all := map[string]bool{}
		for range 5000 {
			cells := with(len(group))
			name := ""
			for _, place := range cells {
				for i := range place {
					l := few[some.Cols[group[i]].Kind]
					at := r.Intn(len(l))
					place[i] = l[at]
					name += strconv.Itoa(at)
				}
			}
			wantBack(t, group, cells)
			seen[Print(some, group, cells)] = true
			all[name] = true
		}
		if len(seen) != len(all) {
			t.Errorf("%d cells of %v have %d bytes", len(all), group, len(seen))
		}
	}
}

// TestSizes wants bytes to take as many as there are, and all else the same, whatever stands there.
func TestSizes(t *testing.T) {
	r := rand.New(rand.NewSource(95))
	for range 20000 {
		group := anyGroup(r, 16)
		cells := anyCells(r, group)
		want := len(Print(some, group, Empty(group)))
		for _, place := range cells {
			for _, v := range place {
				want += len(v.S)
			}
		}
		if got := len(Print(some, group, cells)); got != want {
			t.Fatalf("%v of %v: %d bytes, want %d", cells, group, got, want)
		}
	}
}

// TestOneCellMore wants a cell that is set to change its own bit and bytes, and the heap, alone.
func TestOneCellMore(t *testing.T) {
	r := rand.New(rand.NewSource(96))
	for range 5000 {
		group := append(anyGroup(r, 7), r.Intn(6))
		cells := anyCells(r, group)
		slot, at := r.Intn(8), r.Intn(len(group))
		changed := deep(cells)
		changed[slot][at] = anyValue(r, some.Cols[group[at]].Kind)
		got, is := Read(some, group, Print(some, group, changed))
		if !is || got[slot][at] != changed[slot][at] {
			t.Fatalf("%v in place %d of %v: %v", changed[slot][at], slot, group, got)
		}
		got[slot][at] = cells[slot][at]
		if !same(got, cells) {
			t.Fatalf("a cell of %v in place %d changes another: %v, want %v", group, slot, got, cells)
		}
	}
}

// TestHandedInStays wants schemas, groups and cells, and their spare room, to stay as they were.
func TestHandedInStays(t *testing.T) {
	room := func() [][]api.Value {
		all := with(5, spot{0, 0, number(3)}, spot{0, 1, text("ab")}, spot{2, 1, text("c")})
		for _, place := range all {
			place[2], place[3], place[4] = yes, number(77), text("room")
		}
		return append(all, []api.Value{number(78)}, nil)
	}
	whole := room()
	cells := make([][]api.Value, 8, 10)
	for i := range cells {
		cells[i] = whole[i][:2]
	}
	spare := cells[:10]
	spare[8], spare[9] = whole[8], whole[9]
	groups := []int{0, 1, 2, 70, 71}
	cols := slices.Clone(some.Cols)
	s := api.Schema{Name: "t", Cols: cols[:3]}
	data := Print(s, groups[:2], cells)
	if got, is := Read(s, groups[:2], data); !is || !same(got, cells) {
		t.Errorf("%x reads as %v", data, got)
	}
	Empty(groups[:2])
	Print(s, groups[:4], cells)
	Read(s, groups[:4], data)
	if !same(whole, room()) || !same(spare[8:], room()[8:]) || !slices.Equal(groups, []int{0, 1, 2, 70, 71}) || !slices.Equal(cols, some.Cols) {
		t.Errorf("left are %v, %v, %v, %v", whole, spare, groups, cols)
	}
}

func TestManyAtOnce(t *testing.T) {
	group := []int{4, 0, 2}
	cells := with(3, spot{0, 0, text("ab")}, spot{0, 1, number(7)}, spot{5, 2, yes}, spot{7, 0, text("c")})
	data := Print(some, group, cells)
	var all sync.WaitGroup
	for i := range 8 {
		all.Go(func() {
			r := rand.New(rand.NewSource(int64(97 + i)))
			for range 500 {
				own := anyGroup(r, 8)
				mine := anyCells(r, own)
				back, is := Read(some, own, Print(some, own, mine))
				got, whole := Read(some, group, data)
				if !is || !same(back, mine) || !whole || !same(got, cells) || Print(some, group, cells) != data || len(Empty(group)) != 8 {
					t.Errorf("goroutine %d: other cells than %v", i, mine)
				}
				got[0][0] = number(i)
			}
		})
	}
	all.Wait()
}
