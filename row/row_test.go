package row

import (
	"math"
	"math/rand"
	"slices"
	"strings"
	"sync"
	"testing"

	"mosaicist/api"
)

func number(n int) api.Value  { return api.Value{Kind: api.KindInt, N: n} }
func text(s string) api.Value { return api.Value{Kind: api.KindBytes, S: s} }

// must is a column of that kind that may not be nothing; may is one that may be.
func must(kind int) api.Col { return api.Col{Name: "m", Kind: kind} }
func may(kind int) api.Col  { return api.Col{Name: "n", Kind: kind, Null: true} }

// of is a schema of these columns.
func of(cols ...api.Col) api.Schema { return api.Schema{Name: "t", Cols: cols} }

var (
	nothing = api.Value{}
	no      = api.Value{Kind: api.KindBool}
	yes     = api.Value{Kind: api.KindBool, N: 1}
)

// most are as many bytes as a value may have.
var most = strings.Repeat("m", 60)

// wrong are values that may not be, of all kinds, and of none.
var wrong = []api.Value{
	{N: 1}, {N: -1}, {S: "a"}, {N: math.MinInt, S: "\x00"},
	{Kind: api.KindInt, S: "a"}, {Kind: api.KindInt, N: 1, S: "\x00"},
	{Kind: api.KindBool, N: 2}, {Kind: api.KindBool, N: -1}, {Kind: api.KindBool, N: 257}, {Kind: api.KindBool, N: 1, S: "a"},
	{Kind: api.KindBytes, N: 1}, {Kind: api.KindBytes, N: 2, S: "ab"}, {Kind: api.KindBytes, S: most + "m"}, {Kind: api.KindBytes, S: strings.Repeat("x", 1<<16)},
	{Kind: 4}, {Kind: 9}, {Kind: -1}, {Kind: 256}, {Kind: 257, N: 1}, {Kind: 1<<32 + 1}, {Kind: math.MaxInt}, {Kind: math.MinInt},
}

// rightOnes are values that may be, by their kinds.
func rightOnes() [][]api.Value {
	return [][]api.Value{
		{nothing},
		{number(0), number(1), number(-5), number(math.MaxInt), number(math.MinInt)},
		{no, yes},
		{text(""), text("ab"), text("\x00\xff"), text(most)},
	}
}

// mayBe holds a value against chapter 4's words, one by one.
func mayBe(v api.Value) bool {
	isNothing := v.Kind == 0 && v.N == 0 && v.S == ""
	isNumber := v.Kind == 1 && v.S == ""
	isBool := v.Kind == 2 && (v.N == 0 || v.N == 1) && v.S == ""
	isBytes := v.Kind == 3 && v.N == 0 && len(v.S) <= 60
	return isNothing || isNumber || isBool || isBytes
}

// fit is what the chapter asks Fits for, in its order.
func fit(c api.Col, v api.Value) api.Errno {
	if !mayBe(v) {
		return 1
	}
	if v == nothing && !c.Null {
		return 6
	}
	if v != nothing && v.Kind != c.Kind {
		return 5
	}
	return 0
}

// anyValue is a value, of ten about nine of which may be.
func anyValue(r *rand.Rand) api.Value {
	if r.Intn(10) == 0 {
		return wrong[r.Intn(len(wrong))]
	}
	return anyRight(r, r.Intn(4))
}

// anyRight is a value of that kind, that may be.
func anyRight(r *rand.Rand, kind int) api.Value {
	l := rightOnes()[kind]
	return l[r.Intn(len(l))]
}

// anySchema has up to eight columns, the first of which may be any too.
func anySchema(r *rand.Rand) api.Schema {
	s := api.Schema{Name: "t"}
	for range r.Intn(9) {
		s.Cols = append(s.Cols, api.Col{Name: "c", Kind: 1 + r.Intn(3), Null: r.Intn(2) == 0})
	}
	return s
}

// anyFitting is a row each of whose cells may be.
func anyFitting(r *rand.Rand, s api.Schema) []api.Value {
	var l []api.Value
	for _, c := range s.Cols {
		if c.Null && r.Intn(3) == 0 {
			l = append(l, nothing)
		} else {
			l = append(l, anyRight(r, c.Kind))
		}
	}
	return l
}

// P6.1: Fits

func TestFits(t *testing.T) {
	for _, c := range []struct {
		col  api.Col
		v    api.Value
		want api.Errno
	}{
		{must(1), number(-5), api.OK}, {must(1), number(math.MinInt), api.OK}, {may(1), number(0), api.OK},
		{must(2), no, api.OK}, {must(2), yes, api.OK}, {may(2), no, api.OK},
		{must(3), text(""), api.OK}, {must(3), text(most), api.OK}, {may(3), text("ab"), api.OK},
		{may(1), nothing, api.OK}, {may(2), nothing, api.OK}, {may(3), nothing, api.OK},
		{must(1), nothing, api.ErrNull}, {must(2), nothing, api.ErrNull}, {must(3), nothing, api.ErrNull},
		{must(1), no, api.ErrType}, {must(1), yes, api.ErrType}, {must(1), text("1"), api.ErrType}, {must(1), text(""), api.ErrType},
		{must(2), number(1), api.ErrType}, {must(2), number(0), api.ErrType}, {must(2), text(""), api.ErrType},
		{must(3), number(0), api.ErrType}, {must(3), no, api.ErrType},
		{may(1), no, api.ErrType}, {may(1), text(""), api.ErrType}, {may(2), number(0), api.ErrType}, {may(3), number(0), api.ErrType}, {may(3), no, api.ErrType},
		{must(1), api.Value{Kind: 9}, api.ErrArg}, {must(3), text(most + "m"), api.ErrArg}, {may(3), text(most + "m"), api.ErrArg},
		{must(2), api.Value{Kind: 2, N: 2}, api.ErrArg}, {may(1), api.Value{Kind: 1, S: "a"}, api.ErrArg},
	} {
		if got := Fits(c.col, c.v); got != c.want {
			t.Errorf("%.70q, %d in %+v: %d, want %d", c.v.S, c.v.N, c.col, got, c.want)
		}
	}
}

// TestFitsTellsFirst wants ErrArg of a value that may not be, in whichever column, those where it is nothing or of another kind too.
func TestFitsTellsFirst(t *testing.T) {
	for _, v := range wrong {
		for kind := -1; kind <= 9; kind++ {
			for _, c := range []api.Col{must(kind), may(kind), {Kind: v.Kind}, {Kind: v.Kind, Null: true}} {
				if got := Fits(c, v); got != api.ErrArg {
					t.Errorf("kind %d, %d, %.70q in %+v: %d, want ErrArg", v.Kind, v.N, v.S, c, got)
				}
			}
		}
	}
}

// TestFitsOfEachShape puts all columns, and all shapes of values, together, raw ones too.
func TestFitsOfEachShape(t *testing.T) {
	kinds := []int{math.MinInt, -257, -2, -1, 0, 1, 2, 3, 4, 5, 255, 256, 257, 1<<32 + 1, math.MaxInt}
	for _, kind := range kinds {
		for _, n := range []int{math.MinInt, -1, 0, 1, 2, 256, math.MaxInt} {
			for _, s := range []string{"", "a", "\x00", most[:59], most, most + "m", strings.Repeat("x", 316)} {
				v := api.Value{Kind: kind, N: n, S: s}
				for _, own := range kinds {
					for _, c := range []api.Col{must(own), may(own)} {
						if got, want := Fits(c, v), fit(c, v); got != want {
							t.Errorf("kind %d, %d, %.70q in %+v: %d, want %d", kind, n, s, c, got, want)
						}
					}
				}
			}
		}
	}
}

// TestFitsOfRawColumns wants a column to be asked for its kind and for nothing alone, whether it may be or not.
func TestFitsOfRawColumns(t *testing.T) {
	for _, name := range []string{"", "id", "Id", "\xff", strings.Repeat("n", 1000)} {
		for _, c := range []struct {
			col  api.Col
			v    api.Value
			want api.Errno
		}{
			{api.Col{Name: name, Kind: 1}, number(3), api.OK}, {api.Col{Name: name, Kind: 1}, yes, api.ErrType},
			{api.Col{Name: name}, nothing, api.ErrNull}, {api.Col{Name: name, Null: true}, nothing, api.OK},
			{api.Col{Name: name}, number(0), api.ErrType}, {api.Col{Name: name, Null: true}, text(""), api.ErrType},
			{api.Col{Name: name, Kind: -7, Null: true}, nothing, api.OK}, {api.Col{Name: name, Kind: 4}, nothing, api.ErrNull},
			{api.Col{Name: name, Kind: 257}, number(1), api.ErrType}, {api.Col{Name: name, Kind: 9}, api.Value{Kind: 9}, api.ErrArg},
		} {
			if got := Fits(c.col, c.v); got != c.want {
				t.Errorf("%+v in %.70q, %d: %d, want %d", c.v, name, c.col.Kind, got, c.want)
			}
		}
	}
}

// P6.1: Check

func TestCheck(t *testing.T) {
	s := of(must(1), may(2), must(3))
	for _, c := range []struct {
		what string
		row  []api.Value
		want api.Errno
	}{
		{"a row", []api.Value{number(3), yes, text("ab")}, api.OK},
		{"a row with nothing in it", []api.Value{number(3), nothing, text("")}, api.OK},
		{"nothing as a key", []api.Value{nothing, yes, text("ab")}, api.ErrNull},
		{"nothing at the end", []api.Value{number(3), yes, nothing}, api.ErrNull},
		{"bytes as a key", []api.Value{text("3"), yes, text("ab")}, api.ErrType},
		{"a number in the middle", []api.Value{number(3), number(1), text("ab")}, api.ErrType},
		{"a number at the end", []api.Value{number(3), yes, number(1)}, api.ErrType},
		{"what may not be at the end", []api.Value{number(3), yes, text(most + "m")}, api.ErrArg},
		{"what may not be in the middle", []api.Value{number(3), {Kind: 2, N: 2}, text("ab")}, api.ErrArg},
		{"null, type", []api.Value{nothing, number(1), text("ab")}, api.ErrNull},
		{"type, null", []api.Value{yes, yes, nothing}, api.ErrType},
		{"null, arg", []api.Value{nothing, {Kind: 9}, text("ab")}, api.ErrNull},
		{"type, arg", []api.Value{number(3), number(1), {Kind: 9}}, api.ErrType},
		{"arg, null", []api.Value{{Kind: 9}, yes, nothing}, api.ErrArg},
		{"arg, type", []api.Value{number(3), {Kind: 9}, number(1)}, api.ErrArg},
		{"none", nil, api.ErrArg},
		{"one", []api.Value{number(3)}, api.ErrArg},
		{"two", []api.Value{number(3), yes}, api.ErrArg},
		{"four", []api.Value{number(3), yes, text("ab"), nothing}, api.ErrArg},
		{"two, the first one null", []api.Value{nothing, yes}, api.ErrArg},
		{"four, the first one of another kind", []api.Value{yes, yes, text("ab"), nothing}, api.ErrArg},
	} {
		if got := Check(s, c.row); got != c.want {
			t.Errorf("%s: %d, want %d", c.what, got, c.want)
		}
	}
}

// TestCheckByHowMany wants as many cells as columns, and ErrArg of others, whatever stands in them.
func TestCheckByHowMany(t *testing.T) {
	for cols := range 12 {
		s := api.Schema{Name: "t", Cols: slices.Repeat([]api.Col{must(1)}, cols)}
		for cells := range 14 {
			for _, c := range []struct {
				v    api.Value
				want api.Errno
			}{{number(7), api.OK}, {nothing, api.ErrNull}, {yes, api.ErrType}, {api.Value{N: 1}, api.ErrArg}} {
				want := api.ErrArg
				if cells == cols {
					want = c.want
				}
				if cells == 0 && cols == 0 {
					want = api.OK
				}
				if got := Check(s, slices.Repeat([]api.Value{c.v}, cells)); got != want {
					t.Errorf("%d cells of %+v, %d columns: %d, want %d", cells, c.v, cols, got, want)
				}
			}
		}
	}
}

// TestCheckTellsFirst puts two cells that don't fit into a row, in all places, and wants the first one's error.
func TestCheckTellsFirst(t *testing.T) {
	s := of(slices.Repeat([]api.Col{must(1)}, 8)...)
	bad := []struct {
		v    api.Value
		want api.Errno
	}{{nothing, api.ErrNull}, {text("1"), api.ErrType}, {api.Value{Kind: 9}, api.ErrArg}}
	for i := range 8 {
		for j := i; j < 8; j++ {
			for _, last := range bad {
				for _, first := range bad {
					row := slices.Repeat([]api.Value{number(1)}, 8)
					row[j] = last.v
					row[i] = first.v
					if got := Check(s, row); got != first.want {
						t.Errorf("%+v at %d, and at %d: %d, want %d", row, i, j, got, first.want)
					}
				}
			}
		}
	}
}

// TestCheckOfRawSchemas wants a schema's columns alone to be asked, whether it may be or not.
func TestCheckOfRawSchemas(t *testing.T) {
	for _, c := range []struct {
		what string
		s    api.Schema
		row  []api.Value
		want api.Errno
	}{
		{"no columns", api.Schema{}, nil, api.OK},
		{"no columns, and an empty row", api.Schema{Cols: []api.Col{}}, []api.Value{}, api.OK},
		{"no columns, and a cell", api.Schema{}, []api.Value{nothing}, api.ErrArg},
		{"no name", api.Schema{Cols: []api.Col{must(1)}}, []api.Value{number(1)}, api.OK},
		{"a key that may be nothing", of(may(1)), []api.Value{nothing}, api.OK},
		{"a key that is yes or no", of(must(2), must(2)), []api.Value{yes, no}, api.OK},
		{"a column of no kind", of(must(0)), []api.Value{nothing}, api.ErrNull},
		{"a column of the kind nothing", of(may(0)), []api.Value{nothing}, api.OK},
		{"a kind that there isn't", of(must(9)), []api.Value{{Kind: 9}}, api.ErrArg},
		{"nine columns", of(slices.Repeat([]api.Col{must(3)}, 9)...), slices.Repeat([]api.Value{text(most)}, 9), api.OK},
		{"many columns", of(slices.Repeat([]api.Col{may(3)}, 5000)...), append(slices.Repeat([]api.Value{nothing}, 4999), yes), api.ErrType},
	} {
		if got := Check(c.s, c.row); got != c.want {
			t.Errorf("%s: %d, want %d", c.what, got, c.want)
		}
	}
}

// P6.1: Pick

func TestPick(t *testing.T) {
	row := []api.Value{number(3), nothing, yes, text("ab")}
	for _, c := range []struct {
		cols []int
		want []api.Value
	}{
		{nil, nil}, {[]int{}, nil},
		{[]int{0}, []api.Value{number(3)}}, {[]int{1}, []api.Value{nothing}}, {[]int{3}, []api.Value{text("ab")}},
		{[]int{0, 1, 2, 3}, row}, {[]int{3, 2, 1, 0}, []api.Value{text("ab"), yes, nothing, number(3)}},
		{[]int{2, 0}, []api.Value{yes, number(3)}}, {[]int{1, 3, 0}, []api.Value{nothing, text("ab"), number(3)}},
		{[]int{1, 0, 0}, []api.Value{nothing, number(3), number(3)}}, {[]int{3, 3, 3, 3, 3, 3}, slices.Repeat([]api.Value{text("ab")}, 6)},
	} {
		if got, is := Pick(row, c.cols); !is || !slices.Equal(got, c.want) {
			t.Errorf("%v: %+v, %t, want %+v", c.cols, got, is, c.want)
		}
	}
}

// TestPickOfNoPlace wants none and false as soon as one place isn't there, whichever it is.
func TestPickOfNoPlace(t *testing.T) {
	for size := range 10 {
		row := slices.Repeat([]api.Value{number(3)}, size)
		for _, at := range []int{-1, -2, -size, -size - 1, size, size + 1, 256, 1 << 32, math.MaxInt, math.MinInt} {
			if at == 0 && size > 0 {
				continue
			}
			for _, cols := range [][]int{{at}, {at, at}, {0, at}, {at, 0}, {0, at, 0}, {0, 0, 0, 0, at}} {
				if got, is := Pick(row, cols); is || len(got) != 0 {
					t.Errorf("%v of %d: %+v, %t", cols, size, got, is)
				}
			}
		}
	}
}

// TestPickOfNoRow wants an empty row to have no place, but all of none.
func TestPickOfNoRow(t *testing.T) {
	for _, row := range [][]api.Value{nil, {}} {
		if got, is := Pick(row, nil); !is || len(got) != 0 {
			t.Errorf("none of none: %+v, %t", got, is)
		}
		if got, is := Pick(row, []int{0}); is || len(got) != 0 {
			t.Errorf("the first of none: %+v, %t", got, is)
		}
	}
}

// TestPickOfRoom wants a row's spare room to have no place in it.
func TestPickOfRoom(t *testing.T) {
	room := []api.Value{number(1), number(2), number(3)}
	if got, is := Pick(room[:2], []int{1, 2}); is || len(got) != 0 {
		t.Errorf("of the room: %+v, %t", got, is)
	}
	if got, is := Pick(room[1:], []int{1, 0}); !is || !slices.Equal(got, []api.Value{number(3), number(2)}) {
		t.Errorf("of a piece: %+v, %t", got, is)
	}
}

// TestPickOfRawValues wants values to be picked as they are, those too that may not be.
func TestPickOfRawValues(t *testing.T) {
	for i, v := range wrong {
		if got, is := Pick(wrong, []int{0, i}); !is || len(got) != 2 || got[0] != wrong[0] || got[1] != v {
			t.Errorf("the %d-th: %t, %d of them", i, is, len(got))
		}
	}
}

func TestPickOfAny(t *testing.T) {
	r := rand.New(rand.NewSource(61))
	for range 20000 {
		row := make([]api.Value, r.Intn(9))
		for i := range row {
			row[i] = anyValue(r)
		}
		cols, there := make([]int, r.Intn(10)), true
		for i := range cols {
			cols[i] = r.Intn(len(row)+1) - r.Intn(20)/19
			there = there && cols[i] != -1 && cols[i] != len(row)
		}
		got, is := Pick(row, cols)
		if is != there || is && len(got) != len(cols) || !is && len(got) != 0 {
			t.Fatalf("%v of %d: %d of them, %t", cols, len(row), len(got), is)
		}
		for i := range got {
			if got[i] != row[cols[i]] {
				t.Fatalf("%v of %+v: %+v", cols, row, got)
			}
		}
	}
}

// TestPickIsNew wants one answer to share nothing with the row, nor with another answer.
func TestPickIsNew(t *testing.T) {
	row := []api.Value{number(1), number(2), number(3)}
	all := []int{0, 1, 2}
	for _, cols := range [][]int{all, {0}, {0, 1}, {1, 2}} {
		first, _ := Pick(row, cols)
		second, _ := Pick(row, cols)
		for i := range first {
			first[i] = yes
		}
		_ = append(first, yes)
		for i := range second {
			if second[i] != number(cols[i]+1) {
				t.Errorf("%v beside one that was changed: %+v", cols, second)
			}
		}
	}
	if !slices.Equal(row, []api.Value{number(1), number(2), number(3)}) || !slices.Equal(all, []int{0, 1, 2}) {
		t.Errorf("left are %+v, and %v", row, all)
	}
}

// TestHandedInStays wants a schema, a row, places, and the spare room of them, to stay as they were.
func TestHandedInStays(t *testing.T) {
	cols := []api.Col{must(1), may(2), must(3), may(1)}
	cells := []api.Value{number(1), nothing, text("ab"), {Kind: 9}}
	places := []int{3, 0, 2, -1}
	wasCols, wasCells, wasPlaces := slices.Clone(cols), slices.Clone(cells), slices.Clone(places)
	for size := range 5 {
		Check(of(cols[:size]...), cells[:size])
		Check(api.Schema{Cols: cols[:size]}, cells[:3])
		Pick(cells[:size], places[:size])
		Pick(cells, places[:size])
		if !slices.Equal(cols, wasCols) || !slices.Equal(cells, wasCells) || !slices.Equal(places, wasPlaces) {
			t.Fatalf("of %d: left are %+v, %+v, %v", size, cols, cells, places)
		}
	}
}

func TestManyAtOnce(t *testing.T) {
	s := of(must(1), may(2), must(3))
	row := []api.Value{number(1), nothing, text("ab")}
	var all sync.WaitGroup
	for i := range 8 {
		all.Go(func() {
			for range 2000 {
				got, is := Pick(row, []int{i % 3, 2})
				if !is || len(got) != 2 || got[0] != row[i%3] || got[1] != text("ab") || Check(s, row) != api.OK || Check(s, row[:2]) != api.ErrArg {
					t.Errorf("goroutine %d: %+v, %t", i, got, is)
					return
				}
				got[0], got[1] = number(i), number(i)
			}
		})
	}
	all.Wait()
}

// P6.2

// TestCellByCell wants the first cell's error that doesn't fit, and OK of a row just if there is none.
func TestCellByCell(t *testing.T) {
	r := rand.New(rand.NewSource(62))
	good := 0
	for range 40000 {
		s := anySchema(r)
		row := anyFitting(r, s)
		for i := range row {
			if r.Intn(8) == 0 {
				row[i] = anyValue(r)
			}
		}
		want := api.OK
		for i, c := range slices.Backward(s.Cols) {
			if err := fit(c, row[i]); err != api.OK {
				want = err
			}
			if Fits(c, row[i]) != fit(c, row[i]) {
				t.Fatalf("%+v in %+v: %d", row[i], c, Fits(c, row[i]))
			}
		}
		if got := Check(s, row); got != want {
			t.Fatalf("%+v of %+v: %d, want %d", row, s, got, want)
		}
		if want == api.OK {
			good++
		}
	}
	if good < 1000 || good > 39000 {
		t.Errorf("%d of 40000 rows may be", good)
	}
}

// TestOneCell changes each cell of rows that may be, one by one: the row may be just if that cell may.
func TestOneCell(t *testing.T) {
	r := rand.New(rand.NewSource(63))
	l := append(slices.Concat(rightOnes()...), wrong...)
	for range 200 {
		s := anySchema(r)
		row := anyFitting(r, s)
		if got := Check(s, row); got != api.OK {
			t.Fatalf("%+v of %+v: %d", row, s, got)
		}
		for i, c := range s.Cols {
			was := row[i]
			for _, v := range l {
				row[i] = v
				if got, want := Check(s, row), fit(c, v); got != want {
					t.Fatalf("%+v of %+v: %d, want %d", row, s, got, want)
				}
			}
			row[i] = was
		}
	}
}
