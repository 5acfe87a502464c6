package value

import (
	"bytes"
	"encoding/binary"
	"math"
	"math/rand"
	"slices"
	"strings"
	"sync"
	"testing"

	"mosaicist/api"
	"mosaicist/pack"
)

func number(n int) api.Value  { return api.Value{Kind: api.KindInt, N: n} }
func text(s string) api.Value { return api.Value{Kind: api.KindBytes, S: s} }

var (
	nothing = api.Value{}
	no      = api.Value{Kind: api.KindBool}
	yes     = api.Value{Kind: api.KindBool, N: 1}
)

// most are as many bytes as a value may have.
var most = strings.Repeat("m", 60)

// forms are values that may be, and their bytes, as the chapter tells them.
var forms = []struct {
	v    api.Value
	form string
}{
	{nothing, "\x00"},
	{number(-5), "\x01\x09"}, {number(0), "\x01\x00"}, {number(-1), "\x01\x01"}, {number(1), "\x01\x02"},
	{number(63), "\x01\x7e"}, {number(-64), "\x01\x7f"}, {number(64), "\x01\x80\x01"}, {number(-65), "\x01\x81\x01"},
	{number(math.MaxInt), "\x01\xfe\xff\xff\xff\xff\xff\xff\xff\xff\x01"},
	{number(math.MinInt), "\x01\xff\xff\xff\xff\xff\xff\xff\xff\xff\x01"},
	{no, "\x02\x00"}, {yes, "\x02\x02"},
	{text(""), "\x03\x00"}, {text("ab"), "\x03\x04ab"}, {text("\x00"), "\x03\x02\x00"}, {text("\xff\x80\xc3"), "\x03\x06\xff\x80\xc3"},
	{text(strings.Repeat("x", 59)), "\x03\x76" + strings.Repeat("x", 59)},
	{text(most), "\x03\x78" + most},
	{text("\x03\x04ab"), "\x03\x08\x03\x04ab"},
}

// wrong are values that may not be.
var wrong = []api.Value{
	{N: 1}, {N: -1}, {S: "a"}, {S: "\x00"}, {N: math.MinInt}, {N: 1, S: "a"}, {N: 256},
	{Kind: api.KindInt, S: "a"}, {Kind: api.KindInt, N: 1, S: "\x00"}, {Kind: api.KindInt, N: math.MaxInt, S: most},
	{Kind: api.KindBool, N: 2}, {Kind: api.KindBool, N: -1}, {Kind: api.KindBool, N: math.MaxInt}, {Kind: api.KindBool, N: math.MinInt},
	{Kind: api.KindBool, N: 256}, {Kind: api.KindBool, N: 257}, {Kind: api.KindBool, S: "a"}, {Kind: api.KindBool, N: 1, S: "\x00"},
	{Kind: api.KindBytes, N: 1}, {Kind: api.KindBytes, N: -1, S: "ab"}, {Kind: api.KindBytes, N: 2, S: "ab"}, {Kind: api.KindBytes, N: math.MinInt},
	{Kind: api.KindBytes, S: most + "m"}, {Kind: api.KindBytes, S: strings.Repeat("\x00", 61)}, {Kind: api.KindBytes, S: strings.Repeat("x", 64)},
	{Kind: api.KindBytes, S: strings.Repeat("x", 316)}, {Kind: api.KindBytes, S: strings.Repeat("x", 1<<20)},
	{Kind: 4}, {Kind: 4, N: 1}, {Kind: 5, S: "a"}, {Kind: -1}, {Kind: -2, N: 1}, {Kind: -3, S: "a"}, {Kind: 255}, {Kind: 256}, {Kind: 257, N: 1},
	{Kind: 258, N: 1}, {Kind: 259, S: "ab"}, {Kind: 1 << 32}, {Kind: 1<<32 + 1}, {Kind: math.MaxInt}, {Kind: math.MinInt},
}

// rightOnes are the values of forms.
func rightOnes() []api.Value {
	var l []api.Value
	for _, c := range forms {
		l = append(l, c.v)
	}
	return l
}

// anyOf is a value of that kind, that may be.
func anyOf(r *rand.Rand, kind int) api.Value {
	v := api.Value{Kind: kind}
	switch kind {
	case api.KindInt:
		v.N = int(r.Uint64() >> r.Intn(64))
		if r.Intn(2) == 0 {
			v.N = -v.N
		}
	case api.KindBool:
		v.N = r.Intn(2)
	case api.KindBytes:
		b := make([]byte, r.Intn(61))
		r.Read(b)
		v.S = string(b)
	}
	return v
}

// wantBox wants a box to be left so.
func wantBox(t *testing.T, what string, b *pack.Box, s string, bad bool) {
	t.Helper()
	if b.S != s || b.Bad != bad {
		t.Errorf("%s: left are %q, bad %t; want %q, bad %t", what, b.S, b.Bad, s, bad)
	}
}

// P4.1

func TestRight(t *testing.T) {
	for _, v := range rightOnes() {
		if !Right(v) {
			t.Errorf("%+v may not be", v)
		}
	}
	for _, v := range wrong {
		if Right(v) {
			t.Errorf("%d, %d, %.70q may be", v.Kind, v.N, v.S)
		}
	}
	r := rand.New(rand.NewSource(41))
	for i := range 4000 {
		if v := anyOf(r, i%4); !Right(v) {
			t.Fatalf("%+v may not be", v)
		}
	}
}

// TestRightOfEachShape puts kinds, numbers and texts together, and holds Right against the chapter's words one by one.
func TestRightOfEachShape(t *testing.T) {
	for kind := -300; kind <= 300; kind++ {
		for _, n := range []int{math.MinInt, -2, -1, 0, 1, 2, 3, math.MaxInt} {
			for size := range 65 {
				one := n == 0 || n == 1
				want := kind == 0 && n == 0 && size == 0 || kind == 1 && size == 0 || kind == 2 && one && size == 0 || kind == 3 && n == 0 && size <= 60
				if got := Right(api.Value{Kind: kind, N: n, S: strings.Repeat("x", size)}); got != want {
					t.Fatalf("kind %d, N %d, %d bytes: %t", kind, n, size, got)
				}
			}
		}
	}
}

// TestCompareInTurn wants each of a list, in order, to stand ahead of all behind it.
func TestCompareInTurn(t *testing.T) {
	ends := []api.Value{
		{Kind: math.MinInt, N: math.MaxInt, S: "z"}, {Kind: -1, N: 9, S: "z"},
		{N: math.MinInt, S: "b"}, {N: -1}, nothing, {S: "\x00"}, {S: "a"}, {N: 1}, {N: math.MaxInt, S: "z"},
		number(math.MinInt), number(math.MinInt + 1), number(-256), number(-6), number(-5), number(-1), number(0),
		{Kind: api.KindInt, S: "a"}, {Kind: api.KindInt, S: "b"}, number(1), number(2), number(10), number(255), number(256),
		number(math.MaxInt - 1), number(math.MaxInt),
		{Kind: api.KindBool, N: -1}, no, yes, {Kind: api.KindBool, N: 2},
		{Kind: api.KindBytes, N: -1, S: "z"},
		text(""), text("\x00"), text("\x00\x00"), text("\x00a"), text("A"), text("B"), text("a"), text("a\x00"), text("aa"), text("ab"),
		text("abc"), text("b"), text("ba"), text("\x7f"), text("\x80"), text("\xc3\xa4"), text("\xff"), text("\xff\x00"), text("\xff\xff"),
		{Kind: api.KindBytes, N: 1}, {Kind: api.KindBytes, N: 2, S: "a"}, {Kind: 4}, {Kind: 256}, {Kind: math.MaxInt},
	}
	for i, a := range ends {
		for j, b := range ends {
			want := 0
			if i < j {
				want = -1
			}
			if i > j {
				want = 1
			}
			if got := Compare(a, b); got != want {
				t.Errorf("%+v and %+v: %d, want %d", a, b, got, want)
			}
		}
	}
}

// TestCompareOfAny holds Compare against bytes that are made to stand in the same order.
func TestCompareOfAny(t *testing.T) {
	key := func(v api.Value) []byte {
		b := binary.BigEndian.AppendUint64(nil, uint64(v.Kind)^1<<63)
		return append(binary.BigEndian.AppendUint64(b, uint64(v.N)^1<<63), v.S...)
	}
	r := rand.New(rand.NewSource(42))
	some := []int{math.MinInt, -3, -1, 0, 1, 2, 3, math.MaxInt}
	shape := func() api.Value {
		s := make([]byte, r.Intn(4))
		for i := range s {
			s[i] = "\x00a\x80\xff"[r.Intn(4)]
		}
		return api.Value{Kind: some[r.Intn(8)], N: some[r.Intn(8)], S: string(s)}
	}
	for range 100000 {
		a, b := shape(), shape()
		if r.Intn(2) == 0 {
			b.Kind = a.Kind
		}
		if r.Intn(2) == 0 {
			b.N = a.N
		}
		if got, want := Compare(a, b), bytes.Compare(key(a), key(b)); got != want {
			t.Fatalf("%+v and %+v: %d, want %d", a, b, got, want)
		}
	}
}

// TestCompareByKindFirst wants a kind to weigh more than a number, and a number more than bytes.
func TestCompareByKindFirst(t *testing.T) {
	l := []api.Value{text("a"), yes, number(7), nothing, no, number(-7), text("")}
	slices.SortFunc(l, Compare)
	if want := []api.Value{nothing, number(-7), number(7), no, yes, text(""), text("a")}; !slices.Equal(l, want) {
		t.Errorf("in order: %+v", l)
	}
}

func TestPrint(t *testing.T) {
	for _, c := range forms {
		if got := Print(c.v); got != c.form {
			t.Errorf("%+v: %x, want %x", c.v, got, c.form)
		}
	}
	r := rand.New(rand.NewSource(43))
	for range 4000 {
		n, s := anyOf(r, api.KindInt), anyOf(r, api.KindBytes)
		if got := Print(n); got != "\x01"+pack.Num(n.N) {
			t.Fatalf("%+v: %x", n, got)
		}
		if got := Print(s); got != "\x03"+pack.Text(s.S) {
			t.Fatalf("%+v: %x", s, got)
		}
	}
}

func TestPrintOfWrong(t *testing.T) {
	for _, v := range wrong {
		if got := Print(v); got != "" {
			t.Errorf("%d, %d, %.70q: %.70q, want nothing", v.Kind, v.N, v.S, got)
		}
	}
}

// P4.2

func TestRead(t *testing.T) {
	for _, c := range forms {
		for _, behind := range []string{"", "\x00", "\x01", "\x80", "\xff", "ab", c.form} {
			b := &pack.Box{S: c.form + behind}
			if got := Read(b); got != c.v {
				t.Errorf("%x: %+v, want %+v", c.form, got, c.v)
			}
			wantBox(t, "a value", b, behind, false)
		}
	}
}

// TestReadOfNone wants, where no value stands, zero and Bad.
func TestReadOfNone(t *testing.T) {
	for _, s := range []string{
		"", "\x01", "\x02", "\x03", "\x01\x80", "\x01\xff\xff", "\x01\x80\x00", "\x01\x85\x80\x00",
		"\x01" + strings.Repeat("\xff", 9) + "\x02", "\x01" + strings.Repeat("\x80", 10) + "\x01",
		"\x02\x01", "\x02\x03", "\x02\x04", "\x02\x04\x00", "\x02\x80\x00", "\x02\x82\x00", "\x02\x80\x01", "\x02\x80\x04",
		"\x02" + pack.Num(math.MaxInt), "\x02" + pack.Num(math.MinInt), "\x02" + pack.Num(256), "\x02" + pack.Num(257),
		"\x03\x02", "\x03\x04a", "\x03\x01", "\x03\x01a", "\x03\x80\x00", "\x03\x84\x00ab", "\x03" + pack.Num(math.MaxInt) + "ab",
		"\x03" + pack.Num(math.MinInt) + "ab", "\x03\x78" + most[1:], "\x03\x7a" + most + "m", "\x03\x7a" + most, "\x03\x7a",
		"\x03" + pack.Text(strings.Repeat("x", 64)), "\x03" + pack.Text(strings.Repeat("x", 1000)),
	} {
		b := &pack.Box{S: s}
		if got := Read(b); got != nothing {
			t.Errorf("%x: %+v, want zero", s, got)
		}
		if !b.Bad || b.Done() {
			t.Errorf("%x: %+v isn't Bad", s, b)
		}
	}
}

// TestReadByEachByte goes through all first bytes; of the kinds there are, each has another form behind it.
func TestReadByEachByte(t *testing.T) {
	for first := range 256 {
		for _, behind := range []string{"", "\x00", "\x02", "\x02a", "\x04ab", "\x00\x00", "\x80\x01"} {
			b := &pack.Box{S: string([]byte{byte(first)}) + behind}
			v := Read(b)
			if first > 3 && (v != nothing || !b.Bad) {
				t.Errorf("%x, and %x behind it: %+v, and %+v", first, behind, v, b)
			}
			if !b.Bad && (v.Kind != first || !Right(v)) {
				t.Errorf("%x, and %x behind it: %+v", first, behind, v)
			}
		}
	}
}

// TestReadOfBad wants a box that is Bad to stay as it is, whatever is left in it.
func TestReadOfBad(t *testing.T) {
	for _, s := range []string{"", "\x00", "\x01\x09", "\x02\x02", "\x03\x04ab", "\x04", "\x00\x00"} {
		b := &pack.Box{S: s, Bad: true}
		if v := Read(b); v != nothing {
			t.Errorf("%q in a Bad box: %+v", s, v)
		}
		wantBox(t, "a Bad box", b, s, true)
	}
}

// TestReadOneByOne goes on behind each read, up to one that is Bad, and wants nothing to be read from then on.
func TestReadOneByOne(t *testing.T) {
	b := &pack.Box{S: "\x03\x04ab\x00\x01\x80\x01\x02\x02\x02\x00\x03\x00\x02\x04\x01\x02"}
	for i, want := range []api.Value{text("ab"), nothing, number(64), yes, no, text("")} {
		if got := Read(b); got != want || b.Bad {
			t.Errorf("the one at %d: %+v, want %+v", i, got, want)
		}
	}
	wantBox(t, "six of them", b, "\x02\x04\x01\x02", false)
	for range 3 {
		if got := Read(b); got != nothing || !b.Bad {
			t.Errorf("neither yes nor no, and behind it: %+v", got)
		}
	}
}

func TestReadOfNoBox(t *testing.T) {
	if v := Read(nil); v != nothing {
		t.Errorf("in no box is %+v", v)
	}
}

func TestManyAtOnce(t *testing.T) {
	bad := &pack.Box{S: "\x01\x09", Bad: true}
	var all sync.WaitGroup
	for i := range 8 {
		all.Go(func() {
			r := rand.New(rand.NewSource(int64(44 + i)))
			for n := range 2000 {
				v := anyOf(r, n%4)
				b := &pack.Box{S: Print(v)}
				if got := Read(b); got != v || !b.Done() || !Right(got) || Compare(got, v) != 0 || Read(bad) != nothing {
					t.Errorf("goroutine %d: %+v was %+v", i, got, v)
				}
			}
		})
	}
	all.Wait()
}

// P4.3

func TestThereAndBack(t *testing.T) {
	r := rand.New(rand.NewSource(45))
	var l []api.Value
	for n := -9000; n <= 9000; n++ {
		l = append(l, number(n))
	}
	for bits := range 63 {
		for by := -2; by <= 2; by++ {
			l = append(l, number(1<<bits+by), number(-1<<bits+by))
		}
	}
	for i := range 4000 {
		l = append(l, anyOf(r, i%4))
	}
	for _, v := range append(l, rightOnes()...) {
		b := &pack.Box{S: Print(v)}
		if got := Read(b); got != v || !b.Done() {
			t.Errorf("%+v: there and back %+v", v, got)
		}
	}
}

// TestUnlikeOnesHaveUnlikeBytes wants no two values' bytes to be the same, and none to begin with another's.
func TestUnlikeOnesHaveUnlikeBytes(t *testing.T) {
	l := rightOnes()
	for n := -300; n <= 300; n++ {
		l = append(l, number(n))
	}
	for c := range 256 {
		l = append(l, text(string([]byte{byte(c)})), text(string([]byte{3, byte(c)})))
	}
	for n := range 61 {
		l = append(l, text(strings.Repeat("\x00", n)))
	}
	for i, a := range l {
		for _, b := range l[i+1:] {
			x, y := Print(a), Print(b)
			if a != b && (strings.HasPrefix(x, y) || strings.HasPrefix(y, x)) {
				t.Fatalf("%+v and %+v have the bytes %x and %x", a, b, x, y)
			}
		}
	}
}

// wantOneForm wants s, if a value is read of it, to begin with just that one's bytes.
func wantOneForm(t *testing.T, s string) {
	t.Helper()
	b := &pack.Box{S: s}
	v := Read(b)
	if b.Bad {
		if v != nothing {
			t.Fatalf("%x is Bad, and %+v", s, v)
		}
		return
	}
	if form := s[:len(s)-len(b.S)]; !Right(v) || Print(v) != form {
		t.Fatalf("%x reads as %+v, whose bytes are %x", form, v, Print(v))
	}
}

// TestOneFormOfFewBytes goes through all texts of up to two bytes, and of the kinds' first bytes with two behind them.
func TestOneFormOfFewBytes(t *testing.T) {
	wantOneForm(t, "")
	for a := range 256 {
		wantOneForm(t, string([]byte{byte(a)}))
		for b := range 256 {
			wantOneForm(t, string([]byte{byte(a), byte(b)}))
			for c := 0; a < 5 && c < 256; c++ {
				wantOneForm(t, string([]byte{byte(a), byte(b), byte(c)}))
			}
		}
	}
}

func TestOneFormOfAnyBytes(t *testing.T) {
	r := rand.New(rand.NewSource(46))
	for range 100000 {
		b := make([]byte, 1+r.Intn(80))
		r.Read(b)
		b[0] &= 3
		if r.Intn(4) > 0 {
			b[min(1, len(b)-1)] &= 127
		}
		wantOneForm(t, string(b))
	}
	for i := range 4000 {
		form := []byte(Print(anyOf(r, i%4)))
		form[r.Intn(len(form))] ^= byte(1 + r.Intn(255))
		wantOneForm(t, string(form))
	}
}
