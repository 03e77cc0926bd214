package keys_test

import (
	"bytes"
	"math"
	"slices"
	"strings"
	"testing"

	"hasp/api"
	"hasp/keys"
	"hasp/real"
	"hasp/value"
)

func boolean(n int64) api.Value { return api.Value{Kind: api.Bool, Num: n} }

func whole(n int64) api.Value { return api.Value{Kind: api.Int, Num: n} }

func point(f float64) api.Value {
	return api.Value{Kind: api.Real, Num: int64(math.Float64bits(f))}
}

func text(s string) api.Value { return api.Value{Kind: api.Text, Text: s} }

var (
	negZero = point(math.Copysign(0, -1))
	nan     = api.Value{Kind: api.Real, Num: real.NaN}
	longest = strings.Repeat("\x00", api.MaxText)
)

// line is right values of every kind.
func line() []api.Value {
	list := []api.Value{{}, boolean(0), boolean(1), nan, negZero}
	for _, n := range []int64{math.MinInt64, math.MinInt64 + 1, -256, -255, -1, 0, 1, 127, 128, 255, 256, 1 << 32, math.MaxInt64} {
		list = append(list, whole(n))
	}
	for _, f := range []float64{math.Inf(-1), -math.MaxFloat64, -1.5, -1, -5e-324, 0, 5e-324, 1, 1.5, 2, math.MaxFloat64, math.Inf(1)} {
		list = append(list, point(f))
	}
	for _, s := range []string{"", "\x00", "\x00\x00", "\x00\x01", "\x00\xff", "\x00a", "\x01", "\x01\x00", "a", "a\x00", "a\x00b", "a\x01", "a\xff", "aa", "b", "\xc3\xa9", "\xff", "\xff\xff", longest} {
		list = append(list, text(s))
	}
	return list
}

// key gives the bytes of a list by the chapter's words, value by value.
func key(list ...api.Value) []byte {
	b := []byte{}
	for _, v := range list {
		b = append(b, byte(v.Kind)+1)
		n := uint64(v.Num)
		switch v.Kind {
		case api.Bool:
			b = append(b, byte(n))
		case api.Int:
			b = append(b, eight(n+1<<63)...)
		case api.Real:
			f := math.Float64frombits(n)
			switch {
			case f == 0:
				b = append(b, 128, 0, 0, 0, 0, 0, 0, 0)
			case f < 0:
				b = append(b, eight(math.MaxUint64-n)...)
			default:
				b = append(b, eight(n+1<<63)...)
			}
		case api.Text:
			b = append(b, strings.ReplaceAll(v.Text, "\x00", "\x00\xff")+"\x00\x01"...)
		}
	}
	return b
}

func eight(n uint64) []byte {
	b := make([]byte, 8)
	for i := 7; i >= 0; i-- {
		b[i] = byte(n % 256)
		n /= 256
	}
	return b
}

// plain gives what a key's reading gives back of a list.
func plain(list []api.Value) []api.Value {
	list = slices.Clone(list)
	for i, v := range list {
		if v == negZero {
			list[i] = point(0)
		}
	}
	return list
}

func TestP5_1ByHand(t *testing.T) {
	for _, c := range []struct {
		list []api.Value
		want string
	}{
		{nil, ""},
		{[]api.Value{}, ""},
		{[]api.Value{{}}, "\x01"},
		{[]api.Value{{}, {}}, "\x01\x01"},
		{[]api.Value{boolean(0), boolean(1)}, "\x02\x00\x02\x01"},
		{[]api.Value{whole(-1), text("a")}, "\x03\x7f\xff\xff\xff\xff\xff\xff\xff\x05a\x00\x01"},
		{[]api.Value{whole(0)}, "\x03\x80\x00\x00\x00\x00\x00\x00\x00"},
		{[]api.Value{whole(0x0102030405060708)}, "\x03\x81\x02\x03\x04\x05\x06\x07\x08"},
		{[]api.Value{whole(math.MinInt64)}, "\x03\x00\x00\x00\x00\x00\x00\x00\x00"},
		{[]api.Value{point(1)}, "\x04\xbf\xf0\x00\x00\x00\x00\x00\x00"},
		{[]api.Value{point(-1)}, "\x04\x40\x0f\xff\xff\xff\xff\xff\xff"},
		{[]api.Value{point(0)}, "\x04\x80\x00\x00\x00\x00\x00\x00\x00"},
		{[]api.Value{negZero}, "\x04\x80\x00\x00\x00\x00\x00\x00\x00"},
		{[]api.Value{nan}, "\x04\xff\xf8\x00\x00\x00\x00\x00\x00"},
		{[]api.Value{text("")}, "\x05\x00\x01"},
		{[]api.Value{text("\x00\xff\x00")}, "\x05\x00\xff\xff\x00\xff\x00\x01"},
	} {
		if got := keys.Encode(c.list); string(got) != c.want {
			t.Errorf("Encode(%v) = %q, not %q", c.list, got, c.want)
		}
	}
}

func TestP5_1AllKinds(t *testing.T) {
	for _, a := range line() {
		for _, b := range line() {
			if got, want := keys.Encode([]api.Value{a, b}), key(a, b); !bytes.Equal(got, want) {
				t.Errorf("Encode(%v, %v) = %q, not %q", a, b, got, want)
			}
		}
	}
}

func TestP5_1WrongValues(t *testing.T) {
	for _, v := range []api.Value{
		{Kind: -1}, {Kind: 5}, {Kind: 254}, {Kind: math.MinInt}, {Kind: math.MaxInt, Num: 7, Text: "x"},
		{Kind: api.Null, Num: 1, Text: "x"}, {Kind: api.Bool, Num: -1}, {Kind: api.Bool, Num: 1 << 40},
		{Kind: api.Int, Text: "x"}, {Kind: api.Real, Num: -1}, {Kind: api.Real, Num: 0x7ff0000000000001},
		{Kind: api.Text, Num: 3}, text(strings.Repeat("\x00", 5000)),
	} {
		one, two := keys.Encode([]api.Value{v, whole(1)}), keys.Encode([]api.Value{v, whole(1)})
		if !bytes.Equal(one, two) {
			t.Errorf("Encode(%v) = %q and %q", v, one, two)
		}
		keys.Decode(one)
	}
}

func TestP5_2Errors(t *testing.T) {
	full, most := strings.Repeat("x", 200), strings.Repeat("\x00\xff", 200)
	for _, c := range []struct {
		b string
		e api.Errno
	}{
		{"", api.OK},
		{"\x00", api.ErrKind}, {"\x06", api.ErrKind}, {"\xff\x05a", api.ErrKind}, {"\x01\x00", api.ErrKind}, {"\x01\x06\x02", api.ErrKind},
		{"\x02", api.ErrShort}, {"\x02\x02", api.ErrArg}, {"\x02\xff", api.ErrArg}, {"\x02\x80", api.ErrArg}, {"\x02\x00", api.OK}, {"\x02\x01", api.OK},
		{"\x03", api.ErrShort}, {"\x03abcdefg", api.ErrShort}, {"\x03abcdefgh", api.OK},
		{"\x04", api.ErrShort}, {"\x04\x7f\xff\xff\xff\xff\xff\xff", api.ErrShort},
		{"\x04\x7f\xff\xff\xff\xff\xff\xff\xff", api.ErrArg},
		{"\x04\x7f\xff\xff\xff\xff\xff\xff\xfe", api.OK},
		{"\x04\x80\x00\x00\x00\x00\x00\x00\x00", api.OK},
		{"\x04\xff\xf0\x00\x00\x00\x00\x00\x00", api.OK},
		{"\x04\xff\xf0\x00\x00\x00\x00\x00\x01", api.ErrArg},
		{"\x04\xff\xf8\x00\x00\x00\x00\x00\x00", api.OK},
		{"\x04\xff\xf8\x00\x00\x00\x00\x00\x01", api.ErrArg},
		{"\x04\xff\xff\xff\xff\xff\xff\xff\xff", api.ErrArg},
		{"\x04\x00\x0f\xff\xff\xff\xff\xff\xff", api.OK},
		{"\x04\x00\x0f\xff\xff\xff\xff\xff\xfe", api.ErrArg},
		{"\x04\x00\x07\xff\xff\xff\xff\xff\xff", api.ErrArg},
		{"\x04\x00\x00\x00\x00\x00\x00\x00\x00", api.ErrArg},
		{"\x05", api.ErrShort}, {"\x05a", api.ErrShort}, {"\x05\x00", api.ErrShort}, {"\x05a\x00", api.ErrShort}, {"\x05\x00\xff", api.ErrShort}, {"\x05\x00\xff\x00", api.ErrShort},
		{"\x05\x00\x00", api.ErrArg}, {"\x05\x00\x02", api.ErrArg}, {"\x05\x00\xfe", api.ErrArg}, {"\x05a\x00\x02", api.ErrArg}, {"\x05\x00\xff\x00a\x00\x01", api.ErrArg},
		{"\x05\x00\x01", api.OK}, {"\x05a\x00\x01", api.OK}, {"\x05\x00\xff\x00\x01", api.OK}, {"\x05\x01\x00\x01", api.OK}, {"\x05\xff\x00\x01", api.OK},
		{"\x05" + full, api.ErrShort}, {"\x05" + full + "\x00", api.ErrShort}, {"\x05" + full + "\x00\x01", api.OK},
		{"\x05" + full + "\x00\xff", api.ErrLong}, {"\x05" + full + "\x00\x02", api.ErrArg}, {"\x05" + full + "x", api.ErrLong}, {"\x05" + full + "x\x00\x01", api.ErrLong}, {"\x05" + full + "x\x00\x02", api.ErrLong},
		{"\x05" + most + "\x00\x01", api.OK}, {"\x05" + most + "\x00\xff\x00\x01", api.ErrLong}, {"\x05" + most, api.ErrShort},
		{"\x05" + full[:199] + "\x00\x02" + full, api.ErrArg}, {"\x05" + full + full, api.ErrLong},
		// The first fault from the left counts.
		{"\x02\x02\x00", api.ErrArg}, {"\x02\x01\x00\x02", api.ErrKind}, {"\x05a\x00\x01\x05", api.ErrShort}, {"\x05a\x00\x02\x00", api.ErrArg}, {"\x01\x02\x07\x05" + full + full, api.ErrArg},
	} {
		list, e := keys.Decode([]byte(c.b))
		if e != c.e {
			t.Errorf("Decode(%q): %v, not %v", c.b, e, c.e)
		}
		if e != api.OK && len(list) != 0 {
			t.Errorf("Decode(%q): %v beside an error", c.b, list)
		}
	}
}

func TestP5_2CutShort(t *testing.T) {
	for _, v := range line() {
		whole := key(api.Value{}, v)
		for n := 2; n < len(whole); n++ {
			if list, e := keys.Decode(whole[:n]); e != api.ErrShort || len(list) != 0 {
				t.Errorf("Decode(%q) = %v, %v", whole[:n], list, e)
			}
		}
	}
}

func TestP5_2Values(t *testing.T) {
	list, e := keys.Decode([]byte("\x01\x02\x01\x03\x7f\xff\xff\xff\xff\xff\xff\xfe\x04\x40\x07\xff\xff\xff\xff\xff\xff\x05a\x00\xffb\x00\x01\x01"))
	want := []api.Value{{}, boolean(1), whole(-2), point(-1.5), text("a\x00b"), {}}
	if e != api.OK || !slices.Equal(list, want) {
		t.Errorf("Decode = %v, %v", list, e)
	}
}

func TestP5_3Back(t *testing.T) {
	for _, a := range line() {
		for _, b := range line() {
			list := []api.Value{a, b, a}
			if back, e := keys.Decode(keys.Encode(list)); e != api.OK || !slices.Equal(back, plain(list)) {
				t.Errorf("%v came back as %v, %v", list, back, e)
			}
		}
	}
	if back, e := keys.Decode(keys.Encode(nil)); e != api.OK || len(back) != 0 {
		t.Errorf("nothing came back as %v, %v", back, e)
	}
}

// every calls f with all lists of up to n bytes of these, behind begin.
func every(begin, these []byte, n int, f func([]byte)) {
	f(begin)
	if n == 0 {
		return
	}
	for _, c := range these {
		every(append(slices.Clone(begin), c), these, n-1, f)
	}
}

func TestP5_3Taken(t *testing.T) {
	taken := 0
	hold := func(b []byte) {
		list, e := keys.Decode(b)
		if e != api.OK {
			return
		}
		taken++
		for _, v := range list {
			if code := value.Check(v); code != api.OK {
				t.Fatalf("Decode(%q) gives %v: %v", b, v, code)
			}
		}
		if again := keys.Encode(list); !bytes.Equal(again, b) {
			t.Fatalf("%q: %v: %q", b, list, again)
		}
	}
	every(nil, []byte{0, 1, 2, 5, 6, 255}, 6, hold)
	for _, kind := range []byte{3, 4} {
		every([]byte{kind}, []byte{0, 127, 128, 255}, 8, hold)
		for _, start := range []string{"\xff\xf8", "\xff\xf0", "\x00\x07", "\x00\x0f", "\x7f\xff", "\x80\x00"} {
			every(append([]byte{kind}, start...), []byte{0, 1, 255}, 6, hold)
		}
	}
	if taken < 1<<16 {
		t.Errorf("only %d were taken", taken)
	}
}

func TestP5_4Order(t *testing.T) {
	lists := [][]api.Value{nil}
	for _, a := range line() {
		lists = append(lists, []api.Value{a}, []api.Value{a, {}}, []api.Value{a, boolean(1)}, []api.Value{a, text("")}, []api.Value{a, text("\xff")}, []api.Value{{}, a}, []api.Value{text("a"), a}, []api.Value{negZero, a})
	}
	for _, a := range lists {
		for _, b := range lists {
			if got, want := bytes.Compare(keys.Encode(a), keys.Encode(b)), value.Rows(a, b); got != want {
				t.Errorf("%v and %v: %d, not %d", a, b, got, want)
			}
		}
	}
}

func TestP5_5ByHand(t *testing.T) {
	for _, c := range []struct {
		b, want string
		ok      bool
	}{
		{"", "", false}, {"\xff", "", false}, {"\xff\xff\xff", "", false},
		{"\x01\xff", "\x02", true}, {"a", "b", true}, {"\x00", "\x01", true}, {"\xfe", "\xff", true},
		{"a\xff\xff", "b", true}, {"a\xffb\xff", "a\xffc", true}, {"\xff\x00", "\xff\x01", true}, {"\xff\xfe\xff", "\xff\xff", true}, {"a\x00", "a\x01", true},
	} {
		if got, ok := keys.Behind([]byte(c.b)); string(got) != c.want || ok != c.ok {
			t.Errorf("Behind(%q) = %q, %v", c.b, got, ok)
		}
	}
	if got, ok := keys.Behind(nil); len(got) != 0 || ok {
		t.Errorf("Behind(nil) = %q, %v", got, ok)
	}
}

// TestP5_5Least goes through all short lists of a few bytes in their order: what Behind answers is the first that comes behind.
func TestP5_5Least(t *testing.T) {
	all := [][]byte{}
	every(nil, []byte{0, 1, 254, 255}, 4, func(b []byte) { all = append(all, b) })
	slices.SortFunc(all, bytes.Compare)
	for _, b := range all {
		got, ok := keys.Behind(b)
		last := -1
		for i, c := range all {
			if bytes.HasPrefix(c, b) {
				last = i
			}
		}
		switch {
		case last == len(all)-1:
			if ok || len(got) != 0 {
				t.Errorf("Behind(%q) = %q, %v", b, got, ok)
			}
		case !ok:
			t.Errorf("Behind(%q): nothing", b)
		case bytes.Compare(got, all[last]) <= 0 || bytes.Compare(got, all[last+1]) > 0:
			t.Errorf("Behind(%q) = %q", b, got)
		}
	}
}

// within gives a copy of b in the midst of other bytes, which spare room that is written to would show.
func within(b []byte) (whole, part []byte) {
	whole = append(append([]byte("<<<"), b...), ">>>>>>>>"...)
	return whole, whole[3 : 3+len(b)]
}

func TestNewMemory(t *testing.T) {
	whole, part := within([]byte("a\xff"))
	before := slices.Clone(whole)
	one, _ := keys.Behind(part)
	two, _ := keys.Behind(part)
	clear(one[:cap(one)])
	if string(two) != "b" || !bytes.Equal(whole, before) {
		t.Errorf("Behind shares: %q, %q", two, whole)
	}
	whole, part = within(key(text("ab"), boolean(1)))
	before = slices.Clone(whole)
	list, _ := keys.Decode(part)
	more, _ := keys.Decode(part)
	clear(list[:cap(list)])
	if !bytes.Equal(whole, before) {
		t.Errorf("Decode changed %q", whole)
	}
	clear(whole)
	if !slices.Equal(more, []api.Value{text("ab"), boolean(1)}) {
		t.Errorf("Decode shares: %v", more)
	}
	row := []api.Value{text("ab"), negZero, boolean(1)}
	key1, key2 := keys.Encode(row[:2]), keys.Encode(row[:2])
	clear(key1[:cap(key1)])
	if !bytes.Equal(key2, key(text("ab"), negZero)) || row[1] != negZero || row[2] != boolean(1) {
		t.Errorf("Encode shares: %q, %v", key2, row)
	}
}

// TestP1P2AnyBytes hands in bytes of every kind, twice.
func TestP1P2AnyBytes(t *testing.T) {
	every(nil, []byte{0, 1, 2, 3, 4, 5, 6, 255}, 5, func(b []byte) {
		before := slices.Clone(b)
		list, e := keys.Decode(b)
		more, e2 := keys.Decode(b)
		if e != e2 || !slices.Equal(list, more) {
			t.Fatalf("Decode(%q): %v, %v and %v, %v", b, list, e, more, e2)
		}
		one, ok := keys.Behind(b)
		two, ok2 := keys.Behind(b)
		if ok != ok2 || !bytes.Equal(one, two) || !bytes.Equal(b, before) {
			t.Fatalf("Behind(%q): %q and %q", before, one, two)
		}
	})
}
