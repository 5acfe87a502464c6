package schema

import (
	"encoding/binary"
	"math"
	"math/rand"
	"slices"
	"strings"
	"sync"
	"testing"

	"mosaicist/api"
	"mosaicist/pack"
)

// number, bytes and maybe are columns: of numbers, of bytes, and of a kind that may be nothing.
func number(name string) api.Col          { return api.Col{Name: name, Kind: api.KindInt} }
func bytes(name string) api.Col           { return api.Col{Name: name, Kind: api.KindBytes} }
func maybe(name string, kind int) api.Col { return api.Col{Name: name, Kind: kind, Null: true} }

// of is a schema.
func of(name string, cols ...api.Col) api.Schema { return api.Schema{Name: name, Cols: cols} }

// most is a name of as many letters as there may be.
var most = "abcdefghijklmnopqrst"

// eight are as many columns as there may be, of all shapes.
func eight() []api.Col {
	return []api.Col{
		bytes("k"), number("a"), {Name: "b", Kind: api.KindBool}, bytes("c"),
		maybe("d", api.KindInt), maybe("e", api.KindBool), maybe("f", api.KindBytes), number(most),
	}
}

// forms are schemas that may be, and their bytes, as the chapter tells them.
var forms = []struct {
	s    api.Schema
	form string
}{
	{of("t", number("id")), "\x02t\x02\x04id\x04"},
	{of("t", bytes("id")), "\x02t\x02\x04id\x0c"},
	{of("t", number("t")), "\x02t\x02\x02t\x04"},
	{of("a", number("z")), "\x02a\x02\x02z\x04"},
	{of("z", number("a")), "\x02z\x02\x02a\x04"},
	{of(most, number("id")), "\x28" + most + "\x02\x04id\x04"},
	{of("t", number(most)), "\x02t\x02\x28" + most + "\x04"},
	{of("t", number("id"), maybe("name", api.KindBytes)), "\x02t\x04\x04id\x04\x08name\x0e"},
	{of("t", number("id"), number("name")), "\x02t\x04\x04id\x04\x08name\x04"},
	{of("t", bytes("id"), api.Col{Name: "b", Kind: api.KindBool}), "\x02t\x04\x04id\x0c\x02b\x08"},
	{of("t", bytes("id"), maybe("b", api.KindBool)), "\x02t\x04\x04id\x0c\x02b\x0a"},
	{of("t", bytes("id"), maybe("b", api.KindInt)), "\x02t\x04\x04id\x0c\x02b\x06"},
	{of("t", bytes("i"), bytes("ii"), bytes("iii")), "\x02t\x06\x02i\x0c\x04ii\x0c\x06iii\x0c"},
	{of("all", eight()...), "\x06all\x10\x02k\x0c\x02a\x04\x02b\x08\x02c\x0c\x02d\x06\x02e\x0a\x02f\x0e\x28" + most + "\x04"},
}

// wrongNames are texts that are no names.
var wrongNames = []string{
	"", "A", "Z", "T", "tA", "At", "aTa", "1", "t1", "1t", "_", "a_b", "-", " ", "a ", " a", "a b", "`", "{", "a`", "a{", "@", "[",
	"\x00", "a\x00", "\x00a", "\x01", "\n", "\x7f", "\x80", "\xe1", "\xfa", "a\xff", "\u00e4", "a\u00e4", "\u00e4a", "\u0251", "\u03b1", "\uff41",
	most + "u", most + most, strings.Repeat("a", 256), strings.Repeat("a", 257), strings.Repeat("a", 276), strings.Repeat("a", 1<<16),
	"A" + most[1:], most[:19] + "T", most[:10] + "0" + most[11:],
}

// wrongKinds are numbers that are no column's kind.
var wrongKinds = []int{
	0, 4, 5, 6, 7, -1, -2, -3, 255, 256, 257, 258, 259, 1 << 32, 1<<32 + 1, 1 << 62, 1<<62 + 1, 1<<63 - 1, -1 << 62, -1<<62 + 1,
	math.MinInt, math.MinInt + 1, math.MinInt + 3,
}

// wrongOnes are schemas that may not be, each for one reason alone.
func wrongOnes() []api.Schema {
	l := []api.Schema{
		{}, of("t"), {Name: "t", Cols: []api.Col{}}, of("", number("id")),
		of("t", append(eight(), number("i"))...), of("t", append(eight(), number("i"), number("j"))...),
		of("t", api.Col{Name: "id", Kind: api.KindBool}), of("t", maybe("id", api.KindInt)), of("t", maybe("id", api.KindBytes)),
		of("t", maybe("id", api.KindBool)), of("t", maybe("id", api.KindInt), number("a")), of("t", api.Col{Name: "id", Kind: api.KindBool}, number("a")),
		of("t", number("id"), number("id")), of("t", number("id"), bytes("id")), of("t", number("id"), maybe("id", api.KindBool)),
	}
	for _, name := range wrongNames {
		l = append(l, of(name, number("id")), of("t", number(name)), of("t", number("id"), number(name)), of("t", number("id"), number(name), number("a")))
	}
	for _, kind := range wrongKinds {
		wrong := api.Col{Name: "x", Kind: kind}
		l = append(l, of("t", wrong), of("t", number("id"), wrong), of("t", number("id"), maybe("x", kind)), of("t", number("id"), wrong, number("a")))
	}
	for i := range 8 {
		for j := range i {
			cols := eight()
			cols[i].Name = cols[j].Name
			l = append(l, of("t", cols...))
		}
	}
	return l
}

// anyName is a name, mostly a short one, so that some are alike.
func anyName(r *rand.Rand) string {
	b := make([]byte, 1+r.Intn(1+r.Intn(20)))
	for i := range b {
		b[i] = byte('a' + r.Intn(26))
	}
	return string(b)
}

// anyOne is a schema that may be.
func anyOne(r *rand.Rand) api.Schema {
	s := of(anyName(r))
	seen := map[string]bool{}
	for size := 1 + r.Intn(8); len(s.Cols) < size; {
		c := api.Col{Name: anyName(r), Kind: 1 + r.Intn(3), Null: r.Intn(2) == 0}
		if len(s.Cols) == 0 {
			c.Kind, c.Null = 1+2*r.Intn(2), false
		}
		if !seen[c.Name] {
			s.Cols = append(s.Cols, c)
		}
		seen[c.Name] = true
	}
	return s
}

// wraps tells whether twice the kind of a column is beyond all numbers, so that its bytes may be another's.
func wraps(s api.Schema) bool {
	return slices.ContainsFunc(s.Cols, func(c api.Col) bool { return c.Kind > math.MaxInt/2 || c.Kind < math.MinInt/2 })
}

// same tells whether two schemas are alike.
func same(a, b api.Schema) bool {
	return a.Name == b.Name && slices.Equal(a.Cols, b.Cols)
}

// bytesOf tells a schema's bytes by another way.
func bytesOf(s api.Schema) string {
	var b []byte
	text := func(s string) {
		b = binary.AppendVarint(b, int64(len(s)))
		b = append(b, s...)
	}
	text(s.Name)
	b = binary.AppendVarint(b, int64(len(s.Cols)))
	for _, c := range s.Cols {
		text(c.Name)
		n := int64(c.Kind) << 1
		if c.Null {
			n |= 1
		}
		b = binary.AppendVarint(b, n)
	}
	return string(b)
}

// wantBox wants a box to be left so.
func wantBox(t *testing.T, what string, b *pack.Box, s string, bad bool) {
	t.Helper()
	if b.S != s || b.Bad != bad {
		t.Errorf("%s: left are %q, bad %t; want %q, bad %t", what, b.S, b.Bad, s, bad)
	}
}

// wantNone wants no schema to be read from s.
func wantNone(t *testing.T, s string) {
	t.Helper()
	b := &pack.Box{S: s}
	if got := Read(b); got.Name != "" || len(got.Cols) != 0 {
		t.Errorf("%.90q: %+v, want zero", s, got)
	}
	if !b.Bad || b.Done() {
		t.Errorf("%.90q: a box of it isn't Bad", s)
	}
}

// P5.1

func TestRight(t *testing.T) {
	for _, c := range forms {
		if !Right(c.s) {
			t.Errorf("%+v may not be", c.s)
		}
	}
	for _, s := range wrongOnes() {
		if Right(s) {
			t.Errorf("%.200q, of %d columns, may be", Print(s), len(s.Cols))
		}
	}
	r := rand.New(rand.NewSource(51))
	for range 4000 {
		if s := anyOne(r); !Right(s) {
			t.Fatalf("%+v may not be", s)
		}
	}
}

// TestRightByHowMany goes through how many columns there are, some far beyond as many as there may be.
func TestRightByHowMany(t *testing.T) {
	for size := range 600 {
		var cols []api.Col
		for i := range size {
			cols = append(cols, number(string([]byte{byte('a' + i/26), byte('a' + i%26)})))
		}
		if got := Right(of("t", cols...)); got != (size >= 1 && size <= 8) {
			t.Errorf("%d columns: %t", size, got)
		}
	}
}

// TestRightByLength goes through how long names are.
func TestRightByLength(t *testing.T) {
	for size := range 300 {
		name := strings.Repeat("m", size)
		want := size >= 1 && size <= 20
		for i, s := range []api.Schema{of(name, number("id")), of("t", number(name)), of("t", number("id"), bytes(name))} {
			if Right(s) != want {
				t.Errorf("%d letters, at %d: %t", size, i, !want)
			}
		}
	}
}

// TestRightByEachLetter goes through all bytes, in each place of a name.
func TestRightByEachLetter(t *testing.T) {
	for c := range 256 {
		want := strings.IndexByte("abcdefghijklmnopqrstuvwxyz", byte(c)) >= 0
		for _, size := range []int{1, 2, 3, 20} {
			for at := range size {
				letters := []byte(strings.Repeat("q", size))
				letters[at] = byte(c)
				name := string(letters)
				for _, s := range []api.Schema{of(name, number("id")), of("t", number(name)), of("t", number("id"), bytes(name))} {
					if Right(s) != want {
						t.Errorf("%q in %+v: %t", name, s, !want)
					}
				}
			}
		}
	}
}

// TestRightByEachKind goes through kinds, in each column's place.
func TestRightByEachKind(t *testing.T) {
	for kind := -600; kind <= 600; kind++ {
		for at := range 8 {
			for _, null := range []bool{false, true} {
				cols := eight()
				cols[at].Kind, cols[at].Null = kind, null
				want := kind == 1 || kind == 2 || kind == 3
				if at == 0 {
					want = !null && (kind == 1 || kind == 3)
				}
				if Right(of("t", cols...)) != want {
					t.Errorf("kind %d, null %t, at %d: %t", kind, null, at, !want)
				}
			}
		}
	}
}

// TestRightByNamesThatAreNear wants names to be alike only where all of their letters are; a table's may be a column's.
func TestRightByNamesThatAreNear(t *testing.T) {
	for _, c := range []struct {
		a, b string
		want bool
	}{
		{"a", "a", false}, {"a", "b", true}, {"a", "aa", true}, {"aa", "a", true}, {"ab", "ba", true}, {"ab", "ac", true}, {"cb", "ab", true},
		{most, most, false}, {most, most[:19], true}, {most, most[:19] + "s", true}, {most, "t" + most[1:], true}, {"t", "id", true},
	} {
		for _, s := range []api.Schema{
			of("t", number(c.a), number(c.b)), of(c.a, number(c.b), bytes(c.a)), of("t", number("k"), bytes(c.a), maybe(c.b, 1)),
			of("t", number(c.a), number("k"), number("l"), maybe(c.b, 2)),
		} {
			if Right(s) != c.want {
				t.Errorf("%+v: %t", s, !c.want)
			}
		}
	}
}

func TestPrint(t *testing.T) {
	for _, c := range forms {
		if got := Print(c.s); got != c.form {
			t.Errorf("%+v: %x, want %x", c.s, got, c.form)
		}
	}
	r := rand.New(rand.NewSource(52))
	for range 4000 {
		s := anyOne(r)
		if got, want := Print(s), bytesOf(s); got != want {
			t.Fatalf("%+v: %x, want %x", s, got, want)
		}
	}
}

// TestPrintOfWrong wants bytes of a schema that may not be, too: the chapter excepts none.
func TestPrintOfWrong(t *testing.T) {
	for _, c := range []struct {
		s    api.Schema
		form string
	}{
		{api.Schema{}, "\x00\x00"}, {of("t"), "\x02t\x00"}, {api.Schema{Name: "t", Cols: []api.Col{}}, "\x02t\x00"},
		{of("T", api.Col{}), "\x02T\x02\x00\x00"}, {of("t", maybe("", 0)), "\x02t\x02\x00\x02"}, {of("t", maybe("id", 3)), "\x02t\x02\x04id\x0e"},
		{of("t", api.Col{Name: "x", Kind: 4}), "\x02t\x02\x02x\x10"}, {of("t", api.Col{Name: "x", Kind: -1}), "\x02t\x02\x02x\x03"},
		{of("t", maybe("x", -1)), "\x02t\x02\x02x\x01"}, {of("t", maybe("x", 32)), "\x02t\x02\x02x\x82\x01"},
		{of("t", api.Col{Name: "x", Kind: math.MinInt + 1}), "\x02t\x02\x02x\x04"}, {of("t", maybe("x", math.MaxInt)), "\x02t\x02\x02x\x01"},
		{of("t", number("id"), number("id")), "\x02t\x04\x04id\x04\x04id\x04"}, {of(most+"u", number("\xff")), "\x2a" + most + "u\x02\x02\xff\x04"},
	} {
		if got := Print(c.s); got != c.form {
			t.Errorf("%+v: %x, want %x", c.s, got, c.form)
		}
	}
	for _, s := range wrongOnes() {
		if got := Print(s); got != bytesOf(s) {
			t.Errorf("%.90q, of %d columns: %.90x", s.Name, len(s.Cols), got)
		}
	}
	long := of(strings.Repeat("n", 5000), slices.Repeat([]api.Col{maybe(strings.Repeat("c", 300), 3)}, 3000)...)
	if got := Print(long); got != bytesOf(long) {
		t.Errorf("3000 columns: %.90x of %d bytes", got, len(got))
	}
}

// TestHandedInStays wants a schema, and the spare room of its columns, to stay as they were.
func TestHandedInStays(t *testing.T) {
	room := append(eight(), number("spare"), number("room"))
	for size := range 9 {
		s := api.Schema{Name: "t", Cols: room[:size]}
		Right(s)
		Print(s)
		if s.Name != "t" || !slices.Equal(room, append(eight(), number("spare"), number("room"))) {
			t.Errorf("of %d columns is left %+v, and of the room %+v", size, s, room)
		}
	}
}

// P5.2

func TestRead(t *testing.T) {
	for _, c := range forms {
		for _, behind := range []string{"", "\x00", "\x02t", "\x80", "\xff", "ab", c.form} {
			b := &pack.Box{S: c.form + behind}
			if got := Read(b); !same(got, c.s) {
				t.Errorf("%x: %+v, want %+v", c.form, got, c.s)
			}
			wantBox(t, "a schema", b, behind, false)
		}
	}
}

// TestReadOfWrong wants no schema to be read of the bytes of one that may not be, and of those that end too early.
func TestReadOfWrong(t *testing.T) {
	for _, s := range wrongOnes() {
		if wraps(s) {
			continue
		}
		wantNone(t, Print(s))
		wantNone(t, Print(s)+"\x00")
		wantNone(t, Print(s)+"\x02t\x02\x04id\x04")
	}
	for _, c := range forms {
		for size := range len(c.form) {
			wantNone(t, c.form[:size])
		}
	}
}

// TestReadOfNone wants zero and Bad where no schema stands.
func TestReadOfNone(t *testing.T) {
	for _, s := range []string{
		"", "\x00", "\x00\x00", "\x00\x02\x04id\x04", "\x01", "\x01t\x02\x04id\x04", "\x02t", "\x02t\x00", "\x02t\x00\x04id\x04",
		"\x02t\x01\x04id\x04", "\x02t\x03\x04id\x04", "\x02t\x04\x04id\x04", "\x02t\x12" + strings.Repeat("\x02a\x04", 9),
		"\x02t\x02\x00\x04", "\x02t\x02\x01\x04", "\x02t\x02\x04i\x04", "\x02t\x02\x06id\x04", "\x02t\x02\x04id",
		"\x02t\x02\x04id\x00", "\x02t\x02\x04id\x01", "\x02t\x02\x04id\x02", "\x02t\x02\x04id\x03", "\x02t\x02\x04id\x05", "\x02t\x02\x04id\x06",
		"\x02t\x02\x04id\x07", "\x02t\x02\x04id\x08", "\x02t\x02\x04id\x09", "\x02t\x02\x04id\x0a", "\x02t\x02\x04id\x0b", "\x02t\x02\x04id\x0e",
		"\x02t\x02\x04id\x10", "\x02t\x02\x04id\x80", "\x02t\x02\x04id\x84\x00", "\x02t\x02\x04id\x8c\x00", "\x02t\x02\x04id\x80\x01",
		"\x82\x00t\x02\x04id\x04", "\x02t\x82\x00\x04id\x04", "\x02t\x02\x84\x00id\x04", "\x02t\x02\x04id" + pack.Num(math.MaxInt),
		"\x02t\x02\x04id" + pack.Num(math.MinInt), "\x02t\x02\x04id" + pack.Num(258), "\x02t\x02\x04id" + pack.Num(1<<32+2),
		"\x02t" + pack.Num(math.MaxInt) + "\x04id\x04", "\x02t" + pack.Num(math.MinInt) + "\x04id\x04", "\x02t" + pack.Num(257) + "\x04id\x04",
		pack.Num(math.MaxInt) + "t\x02\x04id\x04", pack.Num(math.MinInt) + "t\x02\x04id\x04", "\x02t\x02" + pack.Num(math.MaxInt) + "id\x04",
		"\x02t\x02" + pack.Num(math.MinInt) + "id\x04", "\x02t\x04\x04id\x04\x02a", "\x02t\x04\x04id\x04\x02a\x00", "\x02t\x04\x04id\x04\x02a\x02",
		"\x02t\x04\x04id\x04\x02a\x10", "\x02t\x04\x04id\x04\x02a\x01", "\x02t\x04\x04id\x04\x02a\x03", "\x02t\x04\x04id\x04\x00\x04",
	} {
		wantNone(t, s)
	}
}

// TestReadStopsAtItsBounds wants what doesn't stand within a schema's bounds to be the last that is taken off.
func TestReadStopsAtItsBounds(t *testing.T) {
	for _, c := range []struct{ what, s, left string }{
		{"a name of 21", "\x2a" + most + "u\x02\x04id\x04", most + "u\x02\x04id\x04"},
		{"a name of fewer than nothing", "\x01t\x02\x04id\x04", "t\x02\x04id\x04"},
		{"no columns", "\x02t\x00\x04id\x04", "\x04id\x04"},
		{"nine columns", "\x02t\x12\x04id\x04", "\x04id\x04"},
		{"a column's name of 21", "\x02t\x04\x2a" + most + "u\x04\x04id\x04", most + "u\x04\x04id\x04"},
		{"a kind of four", "\x02t\x04\x04id\x10\x02a\x04", "\x02a\x04"},
		{"a kind below nothing", "\x02t\x04\x04id\x01\x02a\x04", "\x02a\x04"},
	} {
		b := &pack.Box{S: c.s}
		if got := Read(b); got.Name != "" || len(got.Cols) != 0 {
			t.Errorf("%s: %+v", c.what, got)
		}
		wantBox(t, c.what, b, c.left, true)
	}
}

// TestReadOfFormAlone wants what has a schema's form, but may not be, to be taken off whole.
func TestReadOfFormAlone(t *testing.T) {
	for _, form := range []string{
		"\x02t\x04\x04id\x00\x02a\x04", "\x02t\x04\x04id\x02\x02a\x04", "\x02t\x04\x04id\x06\x02a\x04", "\x02t\x04\x04id\x08\x02a\x04",
		"\x02t\x04\x00\x04\x02a\x04", "\x02t\x04\x04Id\x04\x02a\x04", "\x02t\x06\x02a\x04\x02a\x04\x02b\x04", "\x00\x02\x04id\x04", "\x02T\x02\x04id\x04",
	} {
		b := &pack.Box{S: form + "!"}
		if got := Read(b); got.Name != "" || len(got.Cols) != 0 {
			t.Errorf("%q: %+v", form, got)
		}
		wantBox(t, "a schema's form", b, "!", true)
	}
}

// TestReadOfBad wants a box that is Bad to stay as it is, whatever is left in it.
func TestReadOfBad(t *testing.T) {
	for _, s := range []string{"", "\x00", "\x02t\x02\x04id\x04", "\x02t\x02\x04id\x0c\x00", "\x02t", "\x80", "\xff"} {
		b := &pack.Box{S: s, Bad: true}
		if got := Read(b); got.Name != "" || len(got.Cols) != 0 {
			t.Errorf("%q in a Bad box: %+v", s, got)
		}
		wantBox(t, "a Bad box", b, s, true)
	}
}

// TestReadOneByOne goes on behind each read, up to one that is Bad, and wants nothing to be read from then on.
func TestReadOneByOne(t *testing.T) {
	b := &pack.Box{S: "\x02t\x02\x04id\x04\x02t\x02\x04id\x0c\x0a\x02t\x02\x04id\x06\x02t\x02\x04id\x04"}
	if got := Read(b); !same(got, of("t", number("id"))) || b.Bad {
		t.Errorf("the first: %+v", got)
	}
	if got := Read(b); !same(got, of("t", bytes("id"))) || b.Bad {
		t.Errorf("the second: %+v", got)
	}
	if n := b.Num(); n != 5 {
		t.Errorf("a number behind them: %d", n)
	}
	wantBox(t, "two of them, and a number", b, "\x02t\x02\x04id\x06\x02t\x02\x04id\x04", false)
	for range 3 {
		if got := Read(b); got.Name != "" || len(got.Cols) != 0 || !b.Bad {
			t.Errorf("a key that may be nothing, and behind it: %+v", got)
		}
	}
}

func TestReadOfNoBox(t *testing.T) {
	if got := Read(nil); got.Name != "" || len(got.Cols) != 0 {
		t.Errorf("in no box is %+v", got)
	}
}

// TestReadIsNew wants one answer to be free of another's changes.
func TestReadIsNew(t *testing.T) {
	form := Print(of("t", eight()...))
	first, second := Read(&pack.Box{S: form}), Read(&pack.Box{S: form})
	for i := range first.Cols {
		first.Cols[i] = api.Col{}
	}
	if third := Read(&pack.Box{S: form}); !same(second, of("t", eight()...)) || !same(third, second) {
		t.Errorf("beside one that was changed: %+v, %+v", second, third)
	}
}

func TestManyAtOnce(t *testing.T) {
	bad := &pack.Box{S: "\x02t\x02\x04id\x04", Bad: true}
	one := of("t", eight()...)
	var all sync.WaitGroup
	for i := range 8 {
		all.Go(func() {
			r := rand.New(rand.NewSource(int64(53 + i)))
			for range 1000 {
				s := anyOne(r)
				b := &pack.Box{S: Print(s) + Print(one)}
				if !same(Read(b), s) || !same(Read(b), one) || !b.Done() || !Right(s) || !Right(one) || Read(bad).Name != "" {
					t.Errorf("goroutine %d: another schema than %+v", i, s)
				}
			}
		})
	}
	all.Wait()
}

// P5.3

func TestThereAndBack(t *testing.T) {
	r := rand.New(rand.NewSource(54))
	for range 20000 {
		s := anyOne(r)
		b := &pack.Box{S: Print(s)}
		if got := Read(b); !same(got, s) || !b.Done() {
			t.Fatalf("%+v: there and back %+v", s, got)
		}
	}
}

// near are schemas that are alike but for little.
func near() []api.Schema {
	var l []api.Schema
	for _, c := range forms {
		l = append(l, c.s)
	}
	for _, name := range []string{"a", "b", "aa", "ab", "ba", "aaa"} {
		for _, first := range []string{"a", "b", "aa", "ab", "ba"} {
			l = append(l, of(name, number(first)), of(name, bytes(first)))
			for kind := 1; kind <= 3; kind++ {
				l = append(l, of(name, number(first), api.Col{Name: "c", Kind: kind}), of(name, number(first), maybe("c", kind)))
				l = append(l, of(name, number("c"), api.Col{Name: first, Kind: kind}), of(name, number("c"), bytes("d"), maybe(first, kind)))
			}
		}
	}
	for size := 1; size <= 8; size++ {
		l = append(l, of("n", eight()[:size]...))
	}
	return l
}

// TestUnlikeOnesHaveUnlikeBytes wants no two schemas' bytes to be the same, and none to begin with another's.
func TestUnlikeOnesHaveUnlikeBytes(t *testing.T) {
	l := near()
	for i, a := range l {
		for _, b := range l[i+1:] {
			x, y := Print(a), Print(b)
			if !same(a, b) && (strings.HasPrefix(x, y) || strings.HasPrefix(y, x)) {
				t.Fatalf("%+v and %+v have the bytes %x and %x", a, b, x, y)
			}
		}
	}
}

// TestUnlikeOnesThatMayNotBe wants unlike bytes of these, too, as far as twice their kinds are numbers.
func TestUnlikeOnesThatMayNotBe(t *testing.T) {
	seen := map[string]api.Schema{}
	for _, s := range append(wrongOnes(), near()...) {
		if wraps(s) {
			continue
		}
		was, there := seen[Print(s)]
		if there && !same(was, s) {
			t.Fatalf("%+v and %+v have the bytes %x", was, s, Print(s))
		}
		seen[Print(s)] = s
	}
}

// wantOneForm wants s, if a schema is read of it, to begin with just that one's bytes.
func wantOneForm(t *testing.T, s string) (good bool) {
	t.Helper()
	b := &pack.Box{S: s}
	got := Read(b)
	if b.Bad {
		if got.Name != "" || len(got.Cols) != 0 {
			t.Fatalf("%x is Bad, and %+v", s, got)
		}
		return false
	}
	if form := s[:len(s)-len(b.S)]; !Right(got) || Print(got) != form {
		t.Fatalf("%x reads as %+v, whose bytes are %x", form, got, Print(got))
	}
	return true
}

// TestOneFormOfEachByte puts each byte into each place of a few schemas' bytes.
func TestOneFormOfEachByte(t *testing.T) {
	good := 0
	for _, c := range forms {
		for at := range len(c.form) {
			for b := range 256 {
				form := []byte(c.form)
				form[at] = byte(b)
				if wantOneForm(t, string(form)) {
					good++
				}
			}
		}
	}
	if good < 1000 {
		t.Errorf("only %d of them are schemas", good)
	}
}

func TestOneFormOfAnyBytes(t *testing.T) {
	r := rand.New(rand.NewSource(55))
	for range 100000 {
		b := make([]byte, 1+r.Intn(40))
		for i := range b {
			b[i] = "\x00\x02\x02\x04\x04\x06\x0c\x0e\x10\x80ab"[r.Intn(12)]
		}
		wantOneForm(t, string(b))
		wantOneForm(t, "\x02t\x02\x02"+string(b))
	}
	for range 20000 {
		form := []byte(Print(anyOne(r)))
		form[r.Intn(len(form))] ^= byte(1 + r.Intn(255))
		wantOneForm(t, string(form))
	}
}
