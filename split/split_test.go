package split

import (
	"encoding/binary"
	"math"
	"math/rand"
	"slices"
	"strings"
	"sync"
	"testing"

	"mosaicist/pack"
)

// splits are all splits of so many columns: each column goes into a group that is there, or into a new one behind them.
func splits(cols int) [][][]int {
	all := [][][]int{{}}
	for col := range cols {
		var next [][][]int
		for _, l := range all {
			for at := range len(l) + 1 {
				next = append(next, put(l, at, col))
			}
		}
		all = next
	}
	return all
}

// put is l with one column more at the end of the group at, which may be a new one.
func put(l [][]int, at, col int) [][]int {
	all := deep(l)
	if at == len(l) {
		return append(all, []int{col})
	}
	all[at] = append(all[at], col)
	return all
}

// deep is l in memory of its own.
func deep(l [][]int) [][]int {
	var all [][]int
	for _, group := range l {
		all = append(all, slices.Clone(group))
	}
	return all
}

// every are the splits of all numbers of columns, 1 to 8.
func every() [][][]int {
	var all [][][]int
	for cols := 1; cols <= 8; cols++ {
		all = append(all, splits(cols)...)
	}
	return all
}

// colsOf is how many columns stand in l.
func colsOf(l [][]int) int { return len(slices.Concat(l...)) }

// same tells whether two lists are alike.
func same(a, b [][]int) bool { return slices.EqualFunc(a, b, slices.Equal) }

// bytesOf tells the bytes of a list by another way.
func bytesOf(l [][]int) string {
	b := binary.AppendVarint(nil, int64(len(l)))
	for _, group := range l {
		b = binary.AppendVarint(b, int64(len(group)))
		for _, col := range group {
			b = binary.AppendVarint(b, int64(col))
		}
	}
	return string(b)
}

// isSplit is what the chapter asks Right for, by counting.
func isSplit(l [][]int, cols int) bool {
	count := map[int]int{}
	was := -1
	for _, group := range l {
		if len(group) == 0 || group[0] <= was {
			return false
		}
		was = group[0]
		for i, col := range group {
			if i > 0 && col <= group[i-1] || col < 0 || col >= cols {
				return false
			}
			count[col]++
		}
	}
	for col := range max(cols, 0) {
		if count[col] != 1 {
			return false
		}
	}
	return cols >= 1 && cols <= 8
}

// anyOne is a split of so many columns.
func anyOne(r *rand.Rand, cols int) [][]int {
	var l [][]int
	for col := range cols {
		l = put(l, r.Intn(len(l)+1), col)
	}
	return l
}

// anyList is groups of any columns, mostly of few.
func anyList(r *rand.Rand) [][]int {
	l := make([][]int, r.Intn(5))
	for i := range l {
		l[i] = make([]int, r.Intn(4))
		for j := range l[i] {
			l[i][j] = r.Intn(5) - r.Intn(12)/11
		}
	}
	return l
}

// forms are splits, of how many columns, and their bytes, as the chapter tells them.
var forms = []struct {
	l    [][]int
	cols int
	form string
}{
	{[][]int{{0}}, 1, "\x02\x02\x00"},
	{[][]int{{0, 1}}, 2, "\x02\x04\x00\x02"},
	{[][]int{{0}, {1}}, 2, "\x04\x02\x00\x02\x02"},
	{[][]int{{0, 2}, {1}}, 3, "\x04\x04\x00\x04\x02\x02"},
	{[][]int{{0}, {1, 2}}, 3, "\x04\x02\x00\x04\x02\x04"},
	{[][]int{{0, 3}, {1}, {2}}, 4, "\x06\x04\x00\x06\x02\x02\x02\x04"},
	{[][]int{{0, 2, 3}, {1}}, 4, "\x04\x06\x00\x04\x06\x02\x02"},
	{[][]int{{0, 1, 2, 3, 4, 5, 6, 7}}, 8, "\x02\x10\x00\x02\x04\x06\x08\x0a\x0c\x0e"},
	{[][]int{{0}, {1}, {2}, {3}, {4}, {5}, {6}, {7}}, 8, "\x10\x02\x00\x02\x02\x02\x04\x02\x06\x02\x08\x02\x0a\x02\x0c\x02\x0e"},
	{[][]int{{0, 7}, {1, 6}, {2, 5}, {3, 4}}, 8, "\x08\x04\x00\x0e\x04\x02\x0c\x04\x04\x0a\x04\x06\x08"},
}

// wrongOnes are lists that are no split of so many columns, each for one reason.
var wrongOnes = []struct {
	what string
	l    [][]int
	cols int
}{
	{"nothing", nil, 1}, {"no group", [][]int{}, 1}, {"no group of 8", nil, 8}, {"an empty group", [][]int{{}}, 1}, {"no list", [][]int{nil}, 1},
	{"nothing of no column", nil, 0}, {"no group of no column", [][]int{}, 0}, {"an empty group of no column", [][]int{{}}, 0}, {"fewer than none", nil, -1},
	{"an empty group ahead", [][]int{{}, {0}}, 1}, {"an empty group behind", [][]int{{0}, {}}, 1}, {"an empty group between", [][]int{{0}, {}, {1}}, 2},
	{"no list behind", [][]int{{0, 2}, {1}, nil}, 3}, {"many empty groups", append([][]int{{0}}, make([][]int, 1000)...), 1},
	{"groups not by their firsts", [][]int{{1}, {0}}, 2}, {"groups not by their firsts, of 3", [][]int{{1}, {0, 2}}, 3},
	{"the last two not by their firsts", [][]int{{0}, {2}, {1}}, 3}, {"the first behind the last", [][]int{{1, 2}, {3}, {0}}, 4},
	{"falling", [][]int{{1, 0}}, 2}, {"falling ahead", [][]int{{2, 0}, {1}}, 3}, {"falling within", [][]int{{0, 2, 1}}, 3},
	{"falling behind", [][]int{{0}, {2, 1}}, 3}, {"falling at the end", [][]int{{0, 1, 2, 3, 4, 5, 7, 6}}, 8},
	{"twice in one", [][]int{{0, 0}}, 1}, {"twice in one, of 2", [][]int{{0, 0}}, 2}, {"twice in two", [][]int{{0}, {0}}, 1},
	{"twice in two, of 2", [][]int{{0}, {0}}, 2}, {"twice in two, of 3", [][]int{{0, 1}, {1, 2}}, 3}, {"twice, and one beside", [][]int{{0, 1, 1}}, 2},
	{"twice, for one that isn't there", [][]int{{0, 1}, {1}}, 3}, {"twice at the end", [][]int{{0, 2}, {1, 2}}, 3}, {"twice the last", [][]int{{0, 1}, {2, 2}}, 3},
	{"without the first", [][]int{{1}}, 1}, {"without the first, of 2", [][]int{{1}}, 2}, {"without the first, of 3", [][]int{{1}, {2}}, 3},
	{"without the last", [][]int{{0}}, 2}, {"without the last of 3", [][]int{{0}, {1}}, 3}, {"without the middle", [][]int{{0}, {2}}, 3},
	{"without the middle, in one", [][]int{{0, 2}}, 3}, {"one too many", [][]int{{0}, {1}}, 1}, {"one too many in one", [][]int{{0, 1}}, 1},
	{"one beyond for the last", [][]int{{0, 2}}, 2}, {"one beyond, all there", [][]int{{0, 1}, {2}}, 2}, {"8 of 8", [][]int{{0, 1, 2, 3, 4, 5, 6, 8}}, 8},
	{"below nothing", [][]int{{-1}}, 1}, {"below nothing ahead", [][]int{{-1, 0}}, 1}, {"below nothing, of 2", [][]int{{-1, 0}}, 2},
	{"below nothing ahead of all", [][]int{{-1}, {0}}, 1}, {"below nothing ahead of both", [][]int{{-1, 0}, {1}}, 2},
	{"256 for 0", [][]int{{256}}, 1}, {"256 beside 0", [][]int{{0, 256}}, 1}, {"257 for 1", [][]int{{0, 257}}, 2}, {"2^32 for 0", [][]int{{1 << 32}}, 1},
	{"the greatest", [][]int{{math.MaxInt}}, 1}, {"the greatest behind 0", [][]int{{0, math.MaxInt}}, 2}, {"the least", [][]int{{math.MinInt}}, 1},
	{"the least ahead of 0", [][]int{{math.MinInt, 0}}, 2}, {"the least and the greatest", [][]int{{math.MinInt, math.MaxInt}}, 2},
	{"nine", [][]int{{0, 1, 2, 3, 4, 5, 6, 7, 8}}, 9}, {"nine, each", [][]int{{0}, {1}, {2}, {3}, {4}, {5}, {6}, {7}, {8}}, 9}, {"nine of 8", [][]int{{0, 1, 2, 3, 4, 5, 6, 7, 8}}, 8},
}

// wantBox wants a box to be left so.
func wantBox(t *testing.T, what string, b *pack.Box, s string, bad bool) {
	t.Helper()
	if b.S != s || b.Bad != bad {
		t.Errorf("%s: left are %x, bad %t; want %x, bad %t", what, b.S, b.Bad, s, bad)
	}
}

// wantNone wants no split of so many columns to be read from s.
func wantNone(t *testing.T, s string, cols int) {
	t.Helper()
	b := &pack.Box{S: s}
	if got := Read(b, cols); len(got) != 0 {
		t.Errorf("%.90x, of %d columns: %v, want none", s, cols, got)
	}
	if !b.Bad || b.Done() {
		t.Errorf("%.90x, of %d columns: a box of it isn't Bad", s, cols)
	}
}

// TestSplitsAreAll holds how many splits the tests go through against how many there are.
func TestSplitsAreAll(t *testing.T) {
	for i, want := range []int{1, 1, 2, 5, 15, 52, 203, 877, 4140} {
		if got := len(splits(i)); got != want {
			t.Errorf("%d splits of %d columns, want %d", got, i, want)
		}
	}
}

// P8.1: Right

func TestRight(t *testing.T) {
	for _, c := range forms {
		if !Right(c.l, c.cols) {
			t.Errorf("%v is no split of %d columns", c.l, c.cols)
		}
	}
	for _, c := range wrongOnes {
		if Right(c.l, c.cols) {
			t.Errorf("%s: %v is a split of %d columns", c.what, c.l, c.cols)
		}
	}
}

// TestRightByHowMany wants each split to be one of as many columns as stand in it, and of no other number.
func TestRightByHowMany(t *testing.T) {
	far := []int{-256, -1, 255, 256, 257, 264, 1 << 32, 1<<32 + 1, 1<<32 + 8, 1 << 62, math.MaxInt, math.MinInt, math.MinInt + 1}
	for _, l := range every() {
		for cols := range 20 {
			if got := Right(l, cols); got != (cols == colsOf(l)) {
				t.Fatalf("%v of %d columns: %t", l, cols, got)
			}
		}
		for _, cols := range far {
			if Right(l, cols) {
				t.Fatalf("%v of %d columns", l, cols)
			}
		}
	}
}

// TestRightBeyondEight wants no split of more columns than there may be.
func TestRightBeyondEight(t *testing.T) {
	for cols := 9; cols < 300; cols++ {
		one, each := []int{}, [][]int{}
		for col := range cols {
			one, each = append(one, col), append(each, []int{col})
		}
		for _, asked := range []int{cols, 8, cols - 256, cols % 8} {
			if Right([][]int{one}, asked) || Right(each, asked) {
				t.Errorf("%d columns are a split of %d", cols, asked)
			}
		}
	}
}

// TestRightOfTwoSwapped swaps two columns of each split, and two groups: none is one then, but where it is one again by chance.
func TestRightOfTwoSwapped(t *testing.T) {
	for _, l := range slices.Concat(splits(3), splits(4), splits(5), splits(6)) {
		cols := colsOf(l)
		for a := range cols {
			for b := range a {
				swapped := deep(l)
				i, at, _ := Find(swapped, a)
				j, place, _ := Find(swapped, b)
				swapped[i][at], swapped[j][place] = b, a
				if got := Right(swapped, cols); got != isSplit(swapped, cols) || got && i == j {
					t.Fatalf("%v: %t", swapped, got)
				}
			}
		}
		for a := range l {
			for b := range a {
				swapped := deep(l)
				swapped[a], swapped[b] = swapped[b], swapped[a]
				if Right(swapped, cols) {
					t.Fatalf("%v", swapped)
				}
			}
		}
	}
}

// TestRightOfOneChanged puts another number in the place of each column, and takes each away.
func TestRightOfOneChanged(t *testing.T) {
	for _, l := range slices.Concat(splits(1), splits(2), splits(3), splits(4), splits(5)) {
		cols := colsOf(l)
		for i, group := range l {
			for at, was := range group {
				changed := deep(l)
				for _, col := range []int{-1, 0, 1, 2, 3, 4, 5, 8, was + 8, was + 256, was - 256, math.MaxInt, math.MinInt} {
					changed[i][at] = col
					if got := Right(changed, cols); got != (col == was) {
						t.Fatalf("%v of %d: %t", changed, cols, got)
					}
				}
				changed[i] = slices.Delete(changed[i], at, at+1)
				if Right(changed, cols) || Right(changed, cols-1) != isSplit(changed, cols-1) {
					t.Fatalf("%v of %d, or of %d", changed, cols, cols-1)
				}
			}
		}
	}
}

func TestRightOfAny(t *testing.T) {
	r := rand.New(rand.NewSource(81))
	good := 0
	for range 200000 {
		l, cols := anyList(r), r.Intn(6)
		got := Right(l, cols)
		if got != isSplit(l, cols) {
			t.Fatalf("%v of %d: %t", l, cols, got)
		}
		if got {
			good++
		}
	}
	if good < 300 {
		t.Errorf("only %d of them are splits", good)
	}
}

// TestRightOfMany wants great lists to be looked at, too.
func TestRightOfMany(t *testing.T) {
	group := make([]int, 100000)
	for i := range group {
		group[i] = i
	}
	for _, l := range [][][]int{{group}, slices.Repeat([][]int{{0}}, 100000), slices.Repeat([][]int{group}, 100), slices.Repeat([][]int{nil}, 100000)} {
		for cols := range 10 {
			if Right(l, cols) {
				t.Errorf("%d groups are a split of %d columns", len(l), cols)
			}
		}
	}
}

// P8.1: One, and Each

func TestOneAndEach(t *testing.T) {
	for cols := 1; cols <= 40; cols++ {
		one, each := One(cols), Each(cols)
		if len(one) != 1 || len(one[0]) != cols || len(each) != cols {
			t.Fatalf("of %d columns: %v, %v", cols, one, each)
		}
		for col := range cols {
			if one[0][col] != col || !slices.Equal(each[col], []int{col}) {
				t.Errorf("of %d columns: %v, %v", cols, one, each)
			}
		}
		if Right(one, cols) != (cols <= 8) || Right(each, cols) != (cols <= 8) {
			t.Errorf("of %d columns: %v is right %t, %v %t", cols, one, Right(one, cols), each, Right(each, cols))
		}
	}
}

// TestOneAndEachOfNone wants no group of no column, and of fewer.
func TestOneAndEachOfNone(t *testing.T) {
	for _, cols := range []int{0, -1, -2, -8, -256, -1 << 32, math.MinInt, math.MinInt + 1} {
		if one, each := One(cols), Each(cols); len(one) != 0 || len(each) != 0 {
			t.Errorf("of %d columns: %v, %v", cols, one, each)
		}
	}
}

// TestOneAndEachOfTooMany wants no panic of more columns than an answer may have.
func TestOneAndEachOfTooMany(t *testing.T) {
	for _, cols := range []int{math.MaxInt32, math.MaxInt - 1, math.MaxInt, math.MaxInt/8 + 1} {
		if one, each := One(cols), Each(cols); len(one) != 0 || len(each) != 0 {
			t.Errorf("of %d columns: %d groups, %d", cols, len(one), len(each))
		}
	}
	if each := Each(math.MaxInt32/2 + 1); len(each) != 0 {
		t.Errorf("%d groups", len(each))
	}
}

func TestOneAndEachOfMany(t *testing.T) {
	const many = 100000
	one, each := One(many), Each(many)
	if len(one) != 1 || len(one[0]) != many || one[0][many-1] != many-1 || len(each) != many || len(each[many-1]) != 1 || each[many-1][0] != many-1 {
		t.Errorf("%d groups, %d", len(one), len(each))
	}
}

// TestOneAndEachAreNew wants answers, and the groups of one, to share nothing.
func TestOneAndEachAreNew(t *testing.T) {
	for _, of := range []func(int) [][]int{One, Each} {
		for cols := 1; cols <= 9; cols++ {
			first, second := of(cols), of(cols)
			for i := range first {
				_ = append(first[i], -1, -2)
				for at := range first[i] {
					first[i][at] = -7
				}
				for j := range first {
					if j > i && first[j][0] != j {
						t.Errorf("%v, of %d columns", first, cols)
					}
				}
			}
			_ = append(first[:0], []int{99})
			if !same(second, of(cols)) || colsOf(second) != cols || second[0][0] != 0 {
				t.Errorf("beside one that was changed: %v, %v", second, of(cols))
			}
		}
	}
}

// P8.1: Find

func TestFind(t *testing.T) {
	for _, c := range []struct {
		l     [][]int
		col   int
		group int
		at    int
		is    bool
	}{
		{[][]int{{0, 2}, {1}}, 0, 0, 0, true}, {[][]int{{0, 2}, {1}}, 1, 1, 0, true}, {[][]int{{0, 2}, {1}}, 2, 0, 1, true}, {[][]int{{0, 2}, {1}}, 3, 0, 0, false},
		{[][]int{{0, 2}, {1}}, -1, 0, 0, false}, {[][]int{{0, 2}, {1}}, math.MaxInt, 0, 0, false}, {[][]int{{0, 2}, {1}}, math.MinInt, 0, 0, false},
		{[][]int{{0, 2}, {1}}, 256, 0, 0, false}, {[][]int{{0, 2}, {1}}, 1 << 32, 0, 0, false},
		{nil, 0, 0, 0, false}, {[][]int{}, 0, 0, 0, false}, {[][]int{{}}, 0, 0, 0, false}, {[][]int{nil, {}, {0}}, 0, 2, 0, true},
		{[][]int{{3, 1}, {1, 3}}, 1, 0, 1, true}, {[][]int{{3, 1}, {1, 3}}, 3, 0, 0, true}, {[][]int{{4, 5}, {5, 6, 6}}, 6, 1, 1, true},
		{[][]int{{9, 9, 9}, {9}}, 9, 0, 0, true}, {[][]int{{8}, {7, 9, 9}, {9}}, 9, 1, 1, true}, {[][]int{{}, {5, 4, 3, 2, 1}}, 1, 1, 4, true},
		{[][]int{{0}, {-1}}, -1, 1, 0, true}, {[][]int{{math.MinInt}, {0, math.MaxInt}}, math.MaxInt, 1, 1, true}, {[][]int{{math.MinInt}}, math.MinInt, 0, 0, true},
		{[][]int{{256}}, 0, 0, 0, false}, {[][]int{{1 << 32}}, 0, 0, 0, false}, {[][]int{{0, 1, 2, 3, 4, 5, 6, 7, 8, 9}}, 9, 0, 9, true},
	} {
		if group, at, is := Find(c.l, c.col); group != c.group || at != c.at || is != c.is {
			t.Errorf("%d in %v: %d, %d, %t, want %d, %d, %t", c.col, c.l, group, at, is, c.group, c.at, c.is)
		}
	}
}

// TestFindOfEvery wants each column of each split to be found where it stands, and no other.
func TestFindOfEvery(t *testing.T) {
	for _, l := range every() {
		for i, group := range l {
			for at, col := range group {
				if x, y, is := Find(l, col); x != i || y != at || !is {
					t.Fatalf("%d in %v: %d, %d, %t", col, l, x, y, is)
				}
			}
		}
		for _, col := range []int{-1, colsOf(l), 8, 9, 256} {
			if x, y, is := Find(l, col); x != 0 || y != 0 || is {
				t.Fatalf("%d in %v: %d, %d, %t", col, l, x, y, is)
			}
		}
	}
}

// TestFindIsFirst wants the first of many alike, group by group, place by place.
func TestFindIsFirst(t *testing.T) {
	r := rand.New(rand.NewSource(82))
	for range 50000 {
		l, col := anyList(r), r.Intn(5)
		wantGroup, wantAt, want := 0, 0, false
		for i, group := range slices.Backward(l) {
			for at, c := range slices.Backward(group) {
				if c == col {
					wantGroup, wantAt, want = i, at, true
				}
			}
		}
		if group, at, is := Find(l, col); group != wantGroup || at != wantAt || is != want {
			t.Fatalf("%d in %v: %d, %d, %t", col, l, group, at, is)
		}
	}
}

// P8.1: Join

// joinOf is what the chapter asks Join for, column by column.
func joinOf(l [][]int, a, b int) [][]int {
	if a == b || a < 0 || b < 0 || a >= len(l) || b >= len(l) {
		return deep(l)
	}
	all := make([][]int, len(l)-1)
	for col := range colsOf(l) {
		at, _, _ := Find(l, col)
		if at == a || at == b {
			at = min(a, b)
		} else if at > max(a, b) {
			at--
		}
		all[at] = append(all[at], col)
	}
	return all
}

func TestJoin(t *testing.T) {
	for _, c := range []struct {
		l    [][]int
		a, b int
		want [][]int
	}{
		{[][]int{{0, 3}, {1}, {2}}, 0, 2, [][]int{{0, 2, 3}, {1}}}, {[][]int{{0, 3}, {1}, {2}}, 2, 0, [][]int{{0, 2, 3}, {1}}},
		{[][]int{{0, 3}, {1}, {2}}, 1, 2, [][]int{{0, 3}, {1, 2}}}, {[][]int{{0, 3}, {1}, {2}}, 1, 0, [][]int{{0, 1, 3}, {2}}},
		{[][]int{{0}, {1}}, 0, 1, [][]int{{0, 1}}}, {[][]int{{0}, {1}}, 1, 0, [][]int{{0, 1}}},
		{[][]int{{0}, {1, 3}, {2, 4}, {5}}, 1, 2, [][]int{{0}, {1, 2, 3, 4}, {5}}}, {[][]int{{0}, {1, 3}, {2, 4}, {5}}, 3, 1, [][]int{{0}, {1, 3, 5}, {2, 4}}},
		{[][]int{{0, 2, 4, 6}, {1, 3, 5, 7}}, 0, 1, [][]int{{0, 1, 2, 3, 4, 5, 6, 7}}}, {[][]int{{0, 7}, {1}, {2, 3, 4, 5, 6}}, 2, 0, [][]int{{0, 2, 3, 4, 5, 6, 7}, {1}}},
	} {
		if got := Join(c.l, c.a, c.b); !same(got, c.want) {
			t.Errorf("%d and %d of %v: %v, want %v", c.a, c.b, c.l, got, c.want)
		}
	}
}

// TestJoinOfEvery joins all two groups of each split.
func TestJoinOfEvery(t *testing.T) {
	for _, l := range every() {
		for a := -2; a <= len(l)+2; a++ {
			for b := -2; b <= len(l)+2; b++ {
				if got, want := Join(l, a, b), joinOf(l, a, b); !same(got, want) {
					t.Fatalf("%d and %d of %v: %v, want %v", a, b, l, got, want)
				}
			}
		}
	}
}

// TestJoinOfNoTwo wants a split as it is, where the two are one, or one of them isn't there.
func TestJoinOfNoTwo(t *testing.T) {
	far := []int{-1, -2, -256, 8, 9, 256, 257, 1 << 32, 1<<32 + 1, math.MaxInt, math.MaxInt - 1, math.MinInt, math.MinInt + 1}
	for _, c := range forms {
		for _, a := range far {
			for _, b := range append([]int{0, 1, len(c.l), len(c.l) + 1}, far...) {
				if got := Join(c.l, a, b); !same(got, c.l) {
					t.Errorf("%d and %d of %v: %v", a, b, c.l, got)
				}
				if got := Join(c.l, b, a); !same(got, c.l) {
					t.Errorf("%d and %d of %v: %v", b, a, c.l, got)
				}
			}
		}
		for a := range c.l {
			if got := Join(c.l, a, a); !same(got, c.l) {
				t.Errorf("%d twice of %v: %v", a, c.l, got)
			}
			if got := Join(c.l, a, len(c.l)); !same(got, c.l) {
				t.Errorf("%d and one more of %v: %v", a, c.l, got)
			}
		}
	}
}

// TestJoinOfRaw wants no panic of what is no split.
func TestJoinOfRaw(t *testing.T) {
	r := rand.New(rand.NewSource(83))
	for range 20000 {
		l := anyList(r)
		was := deep(l)
		for _, two := range [][2]int{{0, 0}, {0, 1}, {r.Intn(6) - 1, r.Intn(6) - 1}, {math.MinInt, math.MaxInt}} {
			Join(l, two[0], two[1])
			if !same(l, was) {
				t.Fatalf("of %v is left %v", was, l)
			}
		}
	}
	if got := Join(nil, 0, 1); len(got) != 0 {
		t.Errorf("of nothing: %v", got)
	}
}

// TestJoinIsNew wants an answer to share nothing with what was handed in, nor the groups of one answer with each other, whether two were joined or not.
func TestJoinIsNew(t *testing.T) {
	for _, l := range slices.Concat(splits(1), splits(2), splits(3), splits(4), splits(5)) {
		for a := -1; a <= len(l); a++ {
			for b := -1; b <= len(l); b++ {
				handed := deep(l)
				got := Join(handed, a, b)
				for i, group := range got {
					behind := deep(got[i+1:])
					_ = append(group, -3, -4, -5)
					for at := range group {
						group[at] = -9
					}
					if !same(got[i+1:], behind) {
						t.Fatalf("%d and %d of %v: one group of the answer changes another", a, b, l)
					}
				}
				_ = append(got[:0], []int{-9})
				if !same(handed, l) {
					t.Fatalf("%d and %d of %v: left is %v", a, b, l, handed)
				}
			}
		}
	}
}

// P8.1: Print

func TestPrint(t *testing.T) {
	for _, c := range forms {
		if got := Print(c.l); got != c.form {
			t.Errorf("%v: %x, want %x", c.l, got, c.form)
		}
	}
	for _, l := range every() {
		if got := Print(l); got != bytesOf(l) {
			t.Fatalf("%v: %x, want %x", l, got, bytesOf(l))
		}
	}
}

// TestPrintOfWrong wants the bytes of what is no split, too: the chapter excepts none.
func TestPrintOfWrong(t *testing.T) {
	for _, c := range []struct {
		l    [][]int
		form string
	}{
		{nil, "\x00"}, {[][]int{}, "\x00"}, {[][]int{{}}, "\x02\x00"}, {[][]int{nil, {}}, "\x04\x00\x00"}, {[][]int{{-1}}, "\x02\x02\x01"}, {[][]int{{64}}, "\x02\x02\x80\x01"},
		{[][]int{{1, 0}}, "\x02\x04\x02\x00"}, {[][]int{{1}, {0}}, "\x04\x02\x02\x02\x00"}, {[][]int{{0}, {}, {0, 0}}, "\x06\x02\x00\x00\x04\x00\x00"},
		{[][]int{make([]int, 64)}, "\x02\x80\x01" + strings.Repeat("\x00", 64)}, {make([][]int, 64), "\x80\x01" + strings.Repeat("\x00", 64)},
	} {
		if got := Print(c.l); got != c.form {
			t.Errorf("%v: %x, want %x", c.l, got, c.form)
		}
	}
	for _, c := range wrongOnes {
		if got := Print(c.l); got != bytesOf(c.l) {
			t.Errorf("%v: %x, want %x", c.l, got, bytesOf(c.l))
		}
	}
	great := slices.Repeat([][]int{slices.Repeat([]int{math.MinInt, 3, math.MaxInt}, 100)}, 1000)
	if got := Print(great); got != bytesOf(great) {
		t.Errorf("1000 groups: %d bytes", len(got))
	}
}

// TestHandedInStays wants lists, and the spare room of them and of their groups, to stay as they were.
func TestHandedInStays(t *testing.T) {
	fill := func() [][]int {
		return [][]int{{0, 3, 70, 71}, {1, 4, 72, 73}, {2, 5, 74, 75}, {76}, {77}}
	}
	room := fill()
	l := make([][]int, 3, 5)
	whole := l[:5]
	copy(whole, room)
	for i := range l {
		l[i] = room[i][:2]
	}
	if !Right(l, 6) {
		t.Fatalf("%v is no split", l)
	}
	for a := range 5 {
		for b := range 5 {
			Join(l, a, b)
			Join(l[:2], a, b)
		}
		Right(l, a)
		Find(l, a)
		Print(l)
	}
	if !same(room, fill()) || !same(l, [][]int{{0, 3}, {1, 4}, {2, 5}}) || !same(whole[3:], [][]int{{76}, {77}}) {
		t.Errorf("left are %v, %v, %v", l, whole, room)
	}
}

// P8.2

func TestRead(t *testing.T) {
	for _, c := range forms {
		for _, behind := range []string{"", "\x00", "\x02\x02", "\x80", "\xff", "ab", c.form} {
			b := &pack.Box{S: c.form + behind}
			if got := Read(b, c.cols); !same(got, c.l) {
				t.Errorf("%x: %v, want %v", c.form, got, c.l)
			}
			wantBox(t, "a split", b, behind, false)
		}
	}
}

// TestReadOfOtherColumns wants no split to be read of any other number of columns than its own.
func TestReadOfOtherColumns(t *testing.T) {
	for _, l := range slices.Concat(splits(1), splits(2), splits(3), splits(4), splits(5), splits(8)[:100]) {
		for _, cols := range []int{0, 1, 2, 3, 4, 5, 6, 7, 8, 9, -1, 256, 257, 1 << 32, math.MaxInt, math.MinInt} {
			if cols != colsOf(l) {
				wantNone(t, Print(l), cols)
			}
		}
	}
}

// TestReadOfWrong wants no split to be read of the bytes of what is none, and of those that end too early.
func TestReadOfWrong(t *testing.T) {
	for _, c := range wrongOnes {
		wantNone(t, Print(c.l), c.cols)
		wantNone(t, Print(c.l)+"\x00", c.cols)
		wantNone(t, Print(c.l)+"\x02\x02\x00", c.cols)
	}
	for _, c := range forms {
		for size := range len(c.form) {
			wantNone(t, c.form[:size], c.cols)
		}
	}
}

// TestReadOfNone wants none and Bad where no split stands.
func TestReadOfNone(t *testing.T) {
	for _, s := range []string{
		"", "\x00", "\x00\x00", "\x01", "\x01\x02\x00", "\x03\x02\x00", "\x02", "\x02\x00", "\x02\x01", "\x02\x01\x00", "\x02\x03\x00", "\x02\x02", "\x02\x02\x01", "\x02\x02\x03",
		"\x02\x02\x02", "\x02\x02\x80", "\x02\x02\x80\x00", "\x02\x82\x00\x00", "\x82\x00\x02\x00", "\x02\x02\xff", "\x02\xff\x00", "\xff\x02\x00", "\x80", "\x80\x00",
		"\x04\x02\x00", "\x04\x02\x00\x00", "\x04\x00\x02\x00", "\x04\x02\x00\x02", "\x04\x02\x00\x02\x00", "\x04\x02\x00\x02\x02", "\x04\x02\x02\x02\x00", "\x02\x04\x00\x00", "\x02\x04\x00",
		"\x12" + strings.Repeat("\x02\x00", 9), "\x12\x02\x00", "\x02\x12\x00", "\x02\x12" + strings.Repeat("\x00", 9), "\x10" + strings.Repeat("\x00", 8),
		pack.Num(math.MaxInt) + "\x02\x00", pack.Num(math.MinInt) + "\x02\x00", "\x02" + pack.Num(math.MaxInt) + "\x00", "\x02" + pack.Num(math.MinInt) + "\x00",
		"\x02\x02" + pack.Num(math.MaxInt), "\x02\x02" + pack.Num(math.MinInt), "\x02\x02" + pack.Num(256), "\x02\x02" + pack.Num(1<<32), "\x02\x02" + pack.Num(-256),
		pack.Num(257) + "\x02\x00", "\x02" + pack.Num(257) + "\x00", pack.Num(1<<32+1) + "\x02\x00", "\x02" + pack.Num(1<<32+1) + "\x00", "\x02\x02\x80\x80\x00",
	} {
		wantNone(t, s, 1)
	}
}

// TestReadStopsAtItsBounds wants what doesn't stand within a split's bounds to be the last that is taken off.
func TestReadStopsAtItsBounds(t *testing.T) {
	for _, c := range []struct{ what, s, left string }{
		{"nine groups", "\x12\x02\x00", "\x02\x00"}, {"fewer groups than none", "\x01\x02\x00", "\x02\x00"}, {"no number of groups", "\x82\x00\x02\x00", "\x82\x00\x02\x00"},
		{"nine columns", "\x02\x12\x00", "\x00"}, {"fewer columns than none", "\x02\x01\x00", "\x00"}, {"no number of columns", "\x02\x82\x00\x00", "\x82\x00\x00"},
		{"nine columns in the second", "\x06\x02\x00\x12\x02\x02\x04", "\x02\x02\x04"}, {"no column's number", "\x04\x04\x00\x80\x00\x02\x04", "\x80\x00\x02\x04"},
	} {
		b := &pack.Box{S: c.s}
		if got := Read(b, 3); len(got) != 0 {
			t.Errorf("%s: %v", c.what, got)
		}
		wantBox(t, c.what, b, c.left, true)
	}
}

// TestReadOfFormAlone wants what has a split's form, but is none, to be taken off whole.
func TestReadOfFormAlone(t *testing.T) {
	for _, form := range []string{
		"\x00", "\x02\x00", "\x02\x02\x00", "\x02\x02\x01", "\x02\x04\x02\x00", "\x04\x02\x02\x02\x00", "\x04\x02\x00\x00", "\x02\x04\x00\x80\x01", "\x02\x06\x00\x02\x04",
		"\x02\x10" + strings.Repeat("\x00", 8), "\x10" + strings.Repeat("\x00", 8), "\x02\x04\x01\x02", "\x02\x04\x00" + pack.Num(math.MaxInt),
	} {
		b := &pack.Box{S: form + "!"}
		if got := Read(b, 2); len(got) != 0 {
			t.Errorf("%x: %v", form, got)
		}
		wantBox(t, "a split's form", b, "!", true)
	}
}

// TestReadOfBad wants a box that is Bad to stay as it is, whatever is left in it.
func TestReadOfBad(t *testing.T) {
	for _, s := range []string{"", "\x00", "\x02\x02\x00", "\x02\x02\x00\x00", "\x02", "\x80", "\xff"} {
		b := &pack.Box{S: s, Bad: true}
		if got := Read(b, 1); len(got) != 0 {
			t.Errorf("%x in a Bad box: %v", s, got)
		}
		wantBox(t, "a Bad box", b, s, true)
	}
}

// TestReadOneByOne goes on behind each read, up to one that is Bad, and wants nothing to be read from then on.
func TestReadOneByOne(t *testing.T) {
	b := &pack.Box{S: "\x02\x04\x00\x02\x04\x02\x00\x02\x02\x0a\x02\x02\x02\x02\x02\x00"}
	if got := Read(b, 2); !same(got, [][]int{{0, 1}}) || b.Bad {
		t.Errorf("the first: %v", got)
	}
	if got := Read(b, 2); !same(got, [][]int{{0}, {1}}) || b.Bad {
		t.Errorf("the second: %v", got)
	}
	if n := b.Num(); n != 5 {
		t.Errorf("a number behind them: %d", n)
	}
	wantBox(t, "two of them, and a number", b, "\x02\x02\x02\x02\x02\x00", false)
	for range 3 {
		if got := Read(b, 1); len(got) != 0 || !b.Bad {
			t.Errorf("one without its first column, and behind it: %v", got)
		}
	}
}

func TestReadOfNoBox(t *testing.T) {
	for _, cols := range []int{0, 1, 8, 9, -1} {
		if got := Read(nil, cols); len(got) != 0 {
			t.Errorf("in no box is %v", got)
		}
	}
}

// TestReadIsNew wants one answer to be free of another's changes, and its groups of each other's.
func TestReadIsNew(t *testing.T) {
	for _, c := range forms {
		first, second := Read(&pack.Box{S: c.form}, c.cols), Read(&pack.Box{S: c.form}, c.cols)
		for i, group := range first {
			_ = append(group, -1, -2)
			for at := range group {
				group[at] = -9
			}
			if !same(first[i+1:], c.l[i+1:]) {
				t.Errorf("one group of %v changes another: %v", c.l, first)
			}
		}
		if third := Read(&pack.Box{S: c.form}, c.cols); !same(second, c.l) || !same(third, c.l) {
			t.Errorf("beside one that was changed: %v, %v", second, third)
		}
	}
}

// wantOneForm wants s, if a split of so many columns is read of it, to begin with just that one's bytes.
func wantOneForm(t *testing.T, s string, cols int) (good bool) {
	t.Helper()
	b := &pack.Box{S: s}
	got := Read(b, cols)
	if b.Bad {
		if len(got) != 0 {
			t.Fatalf("%x is Bad, and %v", s, got)
		}
		return false
	}
	if form := s[:len(s)-len(b.S)]; !isSplit(got, cols) || bytesOf(got) != form {
		t.Fatalf("%x reads as %v, of %d columns", form, got, cols)
	}
	return true
}

// TestOneFormOfEachByte puts each byte into each place of a few splits' bytes.
func TestOneFormOfEachByte(t *testing.T) {
	good := 0
	for _, c := range forms {
		for at := range len(c.form) {
			for b := range 256 {
				form := []byte(c.form)
				form[at] = byte(b)
				for cols := range 10 {
					if wantOneForm(t, string(form), cols) {
						good++
					}
				}
			}
		}
	}
	if good < len(forms) {
		t.Errorf("only %d of them are splits", good)
	}
}

func TestOneFormOfAnyBytes(t *testing.T) {
	r := rand.New(rand.NewSource(84))
	good := 0
	for range 200000 {
		b := make([]byte, 1+r.Intn(12))
		for i := range b {
			b[i] = "\x00\x00\x02\x02\x04\x04\x06\x08\x01\x80"[r.Intn(10)]
		}
		if wantOneForm(t, string(b), r.Intn(5)) || wantOneForm(t, "\x04\x04\x00"+string(b), 3) {
			good++
		}
	}
	for range 20000 {
		cols := 1 + r.Intn(8)
		form := []byte(Print(anyOne(r, cols)))
		form[r.Intn(len(form))] ^= byte(1 + r.Intn(255))
		wantOneForm(t, string(form), cols)
	}
	if good < 100 {
		t.Errorf("only %d of them are splits", good)
	}
}

// P8.3

// TestThereAndBack wants each split there is to be read of its own bytes.
func TestThereAndBack(t *testing.T) {
	for _, l := range every() {
		b := &pack.Box{S: Print(l)}
		if got := Read(b, colsOf(l)); !same(got, l) || !b.Done() {
			t.Fatalf("%v: there and back %v", l, got)
		}
	}
}

// TestUnlikeOnesHaveUnlikeBytes wants no two splits' bytes to be the same, and none of as many columns to begin with another's.
func TestUnlikeOnesHaveUnlikeBytes(t *testing.T) {
	seen := map[string][][]int{}
	for _, l := range every() {
		if was, there := seen[Print(l)]; there {
			t.Fatalf("%v and %v have the bytes %x", was, l, Print(l))
		}
		seen[Print(l)] = l
	}
	for form, l := range seen {
		for size := range len(form) {
			if was, there := seen[form[:size]]; there {
				t.Fatalf("the bytes of %v begin with those of %v", l, was)
			}
		}
	}
}

// TestJoinedHasOneFewer wants each two groups joined to make a split of as many columns, of one group fewer, that goes there and back.
func TestJoinedHasOneFewer(t *testing.T) {
	for _, l := range every() {
		cols := colsOf(l)
		for a := range l {
			for b := range l {
				got := Join(l, a, b)
				fewer := 1
				if a == b {
					fewer = 0
				}
				box := &pack.Box{S: Print(got)}
				if len(got) != len(l)-fewer || !Right(got, cols) || !same(Read(box, cols), got) || !box.Done() {
					t.Fatalf("%d and %d of %v: %v", a, b, l, got)
				}
			}
		}
	}
}

// TestEachJoinedIsOne joins any two groups again and again, from each column for itself on: behind as many joins as there are groups but one all are one.
func TestEachJoinedIsOne(t *testing.T) {
	r := rand.New(rand.NewSource(85))
	for range 2000 {
		cols := 1 + r.Intn(8)
		l := Each(cols)
		for want := cols - 1; want >= 1; want-- {
			two := r.Perm(len(l))
			l = Join(l, two[0], two[1])
			if len(l) != want || !Right(l, cols) {
				t.Fatalf("%v, of %d columns, and not of %d groups", l, cols, want)
			}
		}
		if !same(l, One(cols)) {
			t.Fatalf("%v, of %d columns", l, cols)
		}
	}
}

func TestManyAtOnce(t *testing.T) {
	bad := &pack.Box{S: "\x02\x02\x00", Bad: true}
	shared := [][]int{{0, 3}, {1}, {2}}
	var all sync.WaitGroup
	for i := range 8 {
		all.Go(func() {
			r := rand.New(rand.NewSource(int64(86 + i)))
			for range 1000 {
				cols := 1 + r.Intn(8)
				l := anyOne(r, cols)
				b := &pack.Box{S: Print(l) + Print(shared)}
				joined := Join(shared, 2, 0)
				if !same(Read(b, cols), l) || !same(Read(b, 4), shared) || !b.Done() || !Right(shared, 4) || len(Read(bad, 1)) != 0 || !same(joined, [][]int{{0, 2, 3}, {1}}) {
					t.Errorf("goroutine %d: another split than %v", i, l)
				}
				joined[0][0] = i
			}
		})
	}
	all.Wait()
}
