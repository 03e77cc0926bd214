package rows_test

import (
	"bytes"
	"math"
	"slices"
	"strings"
	"testing"

	"hasp/api"
	"hasp/real"
	"hasp/rows"
)

func boolean(n int64) api.Value { return api.Value{Kind: api.Bool, Num: n} }

func whole(n int64) api.Value { return api.Value{Kind: api.Int, Num: n} }

func point(f float64) api.Value {
	return api.Value{Kind: api.Real, Num: int64(math.Float64bits(f))}
}

func text(s string) api.Value { return api.Value{Kind: api.Text, Text: s} }

// columns gives columns that may be Null, of these types.
func columns(types ...int) []api.Column {
	cols := []api.Column{}
	for _, k := range types {
		cols = append(cols, api.Column{Name: "c", Type: k})
	}
	return cols
}

// needed gives columns that are Required, of these types.
func needed(types ...int) []api.Column {
	cols := columns(types...)
	for i := range cols {
		cols[i].Required = true
	}
	return cols
}

// fitting has values of a kind that are right.
func fitting(kind int) []api.Value {
	switch kind {
	case api.Bool:
		return []api.Value{boolean(0), boolean(1)}
	case api.Int:
		return []api.Value{whole(0), whole(-1), whole(0x0102030405060708), whole(math.MinInt64), whole(math.MaxInt64)}
	case api.Real:
		return []api.Value{point(0), point(math.Copysign(0, -1)), point(0.5), point(-1), point(math.Inf(1)), point(math.Inf(-1)), {Kind: api.Real, Num: real.NaN}}
	}
	return []api.Value{text(""), text("a"), text("\x00\xff"), text("é"), text(strings.Repeat("z", 200))}
}

type fitCase struct {
	cols []api.Column
	row  []api.Value
	e    api.Errno
}

func fitCases() []fitCase {
	long := text(strings.Repeat("x", 201))
	four := columns(api.Int, api.Real, api.Text, api.Bool)
	return []fitCase{
		{nil, nil, api.OK},
		{[]api.Column{}, []api.Value{}, api.OK},
		{nil, []api.Value{{}}, api.ErrArity},
		{four, nil, api.ErrArity},
		{four, []api.Value{{Kind: 9}, {}, {}}, api.ErrArity},
		{four, []api.Value{{}, {}, {}, {}, {}}, api.ErrArity},
		{four, []api.Value{{}, {}, {}, {}}, api.OK},
		{four, []api.Value{whole(1), point(1), text("x"), boolean(1)}, api.OK},
		{columns(api.Int), []api.Value{{Kind: -1}}, api.ErrKind},
		{columns(api.Int), []api.Value{{Kind: 5}}, api.ErrKind},
		{columns(5), []api.Value{{Kind: 5}}, api.ErrKind},
		{columns(api.Int), []api.Value{{Kind: api.Int, Text: "x"}}, api.ErrArg},
		{columns(api.Bool), []api.Value{boolean(2)}, api.ErrArg},
		{columns(api.Real), []api.Value{{Kind: api.Real, Num: -1}}, api.ErrArg},
		{columns(api.Text), []api.Value{long}, api.ErrLong},
		{columns(api.Text), []api.Value{text(long.Text[1:])}, api.OK},
		// A value that isn't right is told ahead of what its column asks.
		{needed(api.Int), []api.Value{{Num: 1}}, api.ErrArg},
		{columns(api.Int), []api.Value{long}, api.ErrLong},
		{needed(api.Int), []api.Value{{}}, api.ErrNull},
		{needed(api.Int), []api.Value{whole(0)}, api.OK},
		{needed(api.Int), []api.Value{point(0)}, api.ErrType},
		{columns(api.Real), []api.Value{whole(0)}, api.ErrType},
		{columns(api.Text), []api.Value{boolean(0)}, api.ErrType},
		{columns(api.Bool), []api.Value{text("")}, api.ErrType},
		// Types that are none: only Null fits.
		{columns(api.Null), []api.Value{{}}, api.OK},
		{columns(api.Null), []api.Value{whole(0)}, api.ErrType},
		{needed(api.Null), []api.Value{{}}, api.ErrNull},
		{columns(5, -1), []api.Value{{}, {}}, api.OK},
		{columns(5), []api.Value{text("x")}, api.ErrType},
		// The first column with a fault counts.
		{needed(api.Int, api.Int), []api.Value{{}, {Kind: 9}}, api.ErrNull},
		{needed(api.Int, api.Int), []api.Value{text("x"), {}}, api.ErrType},
		{needed(api.Int, api.Int, api.Text), []api.Value{whole(1), {}, long}, api.ErrNull},
		{columns(api.Int, api.Int, api.Text), []api.Value{whole(1), {}, long}, api.ErrLong},
	}
}

func TestP6_1Fit(t *testing.T) {
	for i, c := range fitCases() {
		if e := rows.Fit(c.cols, c.row); e != c.e {
			t.Errorf("%d: Fit(%v, %v) = %v, not %v", i, c.cols, c.row, e, c.e)
		}
	}
}

func TestP6_2Errors(t *testing.T) {
	for i, c := range fitCases() {
		b, e := rows.Encode(c.cols, c.row)
		if e != c.e || e != api.OK && len(b) != 0 {
			t.Errorf("%d: Encode(%v, %v) = %q, %v, not %v", i, c.cols, c.row, b, e, c.e)
		}
	}
}

// nulls gives n columns and a row of Nulls.
func nulls(n int) ([]api.Column, []api.Value) {
	return make([]api.Column, n), make([]api.Value, n)
}

func TestP6_2ByHand(t *testing.T) {
	long := strings.Repeat("x", 200)
	for i, c := range []struct {
		cols []api.Column
		row  []api.Value
		want string
	}{
		{nil, nil, ""},
		{columns(api.Int, api.Text, api.Bool), []api.Value{whole(1), {}, boolean(1)}, "\x02\x01\x00\x00\x00\x00\x00\x00\x00\x01"},
		{columns(api.Int), []api.Value{whole(-2)}, "\x00\xfe\xff\xff\xff\xff\xff\xff\xff"},
		{columns(api.Int), []api.Value{whole(0x0102030405060708)}, "\x00\x08\x07\x06\x05\x04\x03\x02\x01"},
		{columns(api.Real), []api.Value{point(0.5)}, "\x00\x00\x00\x00\x00\x00\x00\xe0\x3f"},
		{columns(api.Real), []api.Value{point(math.Copysign(0, -1))}, "\x00\x00\x00\x00\x00\x00\x00\x00\x80"},
		{columns(api.Real), []api.Value{{Kind: api.Real, Num: real.NaN}}, "\x00\x00\x00\x00\x00\x00\x00\xf8\x7f"},
		{columns(api.Bool, api.Bool), []api.Value{boolean(0), boolean(1)}, "\x00\x00\x01"},
		{columns(api.Text, api.Text), []api.Value{text(""), text("a\x00")}, "\x00\x00\x02a\x00"},
		{columns(api.Text), []api.Value{text(long)}, "\x00\xc8" + long},
		{columns(api.Int), []api.Value{{}}, "\x01"},
	} {
		if b, e := rows.Encode(c.cols, c.row); e != api.OK || string(b) != c.want {
			t.Errorf("%d: Encode(%v, %v) = %q, %v, not %q", i, c.cols, c.row, b, e, c.want)
		}
	}
	for n, want := range map[int]string{7: "\x7f", 8: "\xff", 9: "\xff\x01", 16: "\xff\xff", 17: "\xff\xff\x01"} {
		if b, e := rows.Encode(nulls(n)); e != api.OK || string(b) != want {
			t.Errorf("%d Nulls: %q, %v", n, b, e)
		}
	}
	cols, row := nulls(10)
	cols[0].Type, row[0] = api.Bool, boolean(1)
	cols[8].Type, row[8] = api.Text, text("b")
	if b, e := rows.Encode(cols, row); e != api.OK || string(b) != "\xfe\x02\x01\x01b" {
		t.Errorf("ten columns: %q, %v", b, e)
	}
}

func TestP6_3Errors(t *testing.T) {
	long := strings.Repeat("x", 200)
	zeros := strings.Repeat("\x00", 8)
	nine := columns(1, 1, 1, 1, 1, 1, 1, 1, 1)
	for i, c := range []struct {
		cols []api.Column
		b    string
		e    api.Errno
	}{
		{nil, "", api.OK}, {nil, "\x00", api.ErrTail}, {nil, "\x01", api.ErrTail},
		{columns(api.Bool), "", api.ErrShort}, {nine, "", api.ErrShort}, {nine, "\xff", api.ErrShort}, {nine, "\xff\x01", api.OK},
		{columns(api.Bool), "\x03", api.ErrArg}, {columns(api.Bool), "\x81", api.ErrArg}, {nine, "\xff\x03", api.ErrArg}, {nine, "\xff\x80", api.ErrArg}, {nine[:8], "\xff", api.OK},
		{needed(api.Bool), "\x03", api.ErrArg}, {needed(api.Bool), "\x01", api.ErrNull}, {needed(7), "\x01", api.ErrNull},
		{columns(7), "\x01", api.OK}, {columns(api.Null), "\x01", api.OK}, {columns(api.Null), "\x00", api.ErrType}, {columns(5), "\x00", api.ErrType}, {columns(-1), "\x00" + zeros, api.ErrType}, {columns(math.MinInt), "\x00", api.ErrType},
		{columns(api.Bool), "\x00", api.ErrShort}, {columns(api.Bool), "\x00\x02", api.ErrArg}, {columns(api.Bool), "\x00\xff", api.ErrArg}, {columns(api.Bool), "\x00\x01", api.OK},
		{columns(api.Int), "\x00" + zeros[1:], api.ErrShort}, {columns(api.Int), "\x00" + zeros, api.OK},
		{columns(api.Real), "\x00" + zeros[1:], api.ErrShort}, {columns(api.Real), "\x00" + zeros, api.OK},
		{columns(api.Real), "\x00" + zeros[1:] + "\x80", api.OK},
		{columns(api.Real), "\x00\x01\x00\x00\x00\x00\x00\xf8\x7f", api.ErrArg}, {columns(api.Real), "\x00\x00\x00\x00\x00\x00\x00\xf8\xff", api.ErrArg}, {columns(api.Real), "\x00\x00\x00\x00\x00\x00\x00\xf8\x7f", api.OK}, {columns(api.Real), "\x00\xff\xff\xff\xff\xff\xff\xff", api.ErrShort},
		{columns(api.Text), "\x00", api.ErrShort}, {columns(api.Text), "\x00\x01", api.ErrShort}, {columns(api.Text), "\x00\x02a", api.ErrShort}, {columns(api.Text), "\x00\x00", api.OK},
		{columns(api.Text), "\x00\xc8" + long, api.OK}, {columns(api.Text), "\x00\xc8" + long[1:], api.ErrShort}, {columns(api.Text), "\x00\xc9" + long + "x", api.ErrLong}, {columns(api.Text), "\x00\xc9", api.ErrLong}, {columns(api.Text), "\x00\xff", api.ErrLong},
		{columns(api.Text), "\x00\x00\x00", api.ErrTail}, {columns(api.Bool), "\x01\x00", api.ErrTail}, {columns(api.Int), "\x00" + zeros + "x", api.ErrTail},
		// The first column with a fault counts, and bytes that are left come last.
		{columns(api.Bool, 5), "\x00\x02", api.ErrArg}, {columns(5, api.Bool), "\x00\x02", api.ErrType}, {[]api.Column{{Type: api.Text}, {Type: api.Int, Required: true}}, "\x02\xc9", api.ErrLong}, {[]api.Column{{Type: api.Int, Required: true}, {Type: api.Text}}, "\x01\xc9", api.ErrNull},
		{columns(api.Text, api.Bool), "\x00\x01a\x05\x00", api.ErrArg}, {columns(api.Text, api.Bool), "\x00\x02a\x01", api.ErrShort},
	} {
		row, e := rows.Decode(c.cols, []byte(c.b))
		if e != c.e || e != api.OK && len(row) != 0 || e == api.OK && len(row) != len(c.cols) {
			t.Errorf("%d: Decode(%v, %q) = %v, %v, not %v", i, c.cols, c.b, row, e, c.e)
		}
	}
}

func TestP6_3Row(t *testing.T) {
	cols := columns(api.Int, api.Text, api.Bool, api.Real, api.Text)
	row, e := rows.Decode(cols, []byte("\x02\x01\x02\x03\x04\x05\x06\x07\xf8\x01\x00\x00\x00\x00\x00\x00\xe0\x3f\x03a\x00b"))
	want := []api.Value{whole(-0x7f8f9fafbfcfdff), {}, boolean(1), point(0.5), text("a\x00b")}
	if e != api.OK || !slices.Equal(row, want) {
		t.Errorf("Decode = %v, %v, not %v", row, e, want)
	}
}

// eachRow calls f with rows of the four types in many orders, with Nulls.
func eachRow(f func(cols []api.Column, row []api.Value)) {
	kinds := []int{api.Bool, api.Int, api.Real, api.Text}
	for _, j := range kinds {
		for _, k := range kinds {
			cols := columns(j, k, j)
			for _, a := range append(fitting(j), api.Value{}) {
				for _, b := range append(fitting(k), api.Value{}) {
					f(cols, []api.Value{a, b, fitting(j)[0]})
					f(cols, []api.Value{{}, b, a})
				}
			}
		}
	}
}

func TestP6_4Back(t *testing.T) {
	eachRow(func(cols []api.Column, row []api.Value) {
		b, e := rows.Encode(cols, row)
		if e != api.OK {
			t.Fatalf("Encode(%v): %v", row, e)
		}
		if back, e := rows.Decode(cols, b); e != api.OK || !slices.Equal(back, row) {
			t.Errorf("%v came back as %v, %v", row, back, e)
		}
		for n := range len(b) {
			if back, e := rows.Decode(cols, b[:n]); e != api.ErrShort || len(back) != 0 {
				t.Errorf("Decode(%q) = %v, %v", b[:n], back, e)
			}
		}
		if back, e := rows.Decode(cols, append(b, 0)); e != api.ErrTail || len(back) != 0 {
			t.Errorf("Decode(%q, 0) = %v, %v", b, back, e)
		}
	})
	for n := range 40 {
		cols, row := nulls(n)
		for i := range row {
			if cols[i].Type = api.Bool; i%3 > 0 {
				row[i] = boolean(int64(i % 2))
			}
		}
		b, e := rows.Encode(cols, row)
		if back, e2 := rows.Decode(cols, b); e != api.OK || e2 != api.OK || !slices.Equal(back, row) {
			t.Errorf("%v: %q, %v came back as %v, %v", row, b, e, back, e2)
		}
	}
}

// every calls f with all lists of up to n bytes of these, behind begin.
func every(begin, these []byte, n int, f func([]byte)) {
	f(begin)
	if n == 0 {
		return
	}
	for _, c := range these {
		every(append(slices.Clone(begin), c), these, n-1, f)
	}
}

func TestP6_4Taken(t *testing.T) {
	taken := 0
	hold := func(cols []api.Column) func([]byte) {
		return func(b []byte) {
			row, e := rows.Decode(cols, b)
			if e != api.OK {
				return
			}
			taken++
			if code := rows.Fit(cols, row); code != api.OK {
				t.Fatalf("Decode(%v, %q) gives %v: %v", cols, b, row, code)
			}
			if again, e := rows.Encode(cols, row); e != api.OK || !bytes.Equal(again, b) {
				t.Fatalf("Decode(%v, %q) = %v: %q, %v", cols, b, row, again, e)
			}
		}
	}
	for _, cols := range [][]api.Column{columns(api.Text, api.Bool), columns(api.Bool, api.Text, api.Text), needed(api.Text, api.Bool), {{Type: api.Bool, Required: true}, {Type: api.Text}}} {
		every(nil, []byte{0, 1, 2, 3, 4, 6, 255}, 6, hold(cols))
	}
	for _, kind := range []int{api.Int, api.Real} {
		every([]byte{0}, []byte{0, 127, 255}, 8, hold(columns(kind)))
		for _, end := range []string{"\xf8\x7f", "\xf8\xff", "\xf0\x7f", "\x00\x80"} {
			every([]byte{0}, []byte{0, 1}, 6, func(b []byte) { hold(columns(kind))(append(b, end...)) })
		}
	}
	if taken < 5000 {
		t.Errorf("only %d were taken", taken)
	}
}

func TestP6_4NewMemory(t *testing.T) {
	cols := columns(api.Text, api.Bool)
	row := []api.Value{text("ab"), boolean(1), whole(7)}
	one, _ := rows.Encode(cols, row[:2])
	two, _ := rows.Encode(cols, row[:2])
	clear(one[:cap(one)])
	if string(two) != "\x00\x02ab\x01" || !slices.Equal(row, []api.Value{text("ab"), boolean(1), whole(7)}) || !slices.Equal(cols, columns(api.Text, api.Bool)) {
		t.Errorf("Encode shares: %q, %v, %v", two, row, cols)
	}
	whole := append(slices.Clone(two), ">>>>"...)
	back, _ := rows.Decode(cols, whole[:5])
	more, _ := rows.Decode(cols, whole[:5])
	clear(back[:cap(back)])
	if string(whole) != "\x00\x02ab\x01>>>>" || !slices.Equal(cols, columns(api.Text, api.Bool)) {
		t.Errorf("Decode changed %q, %v", whole, cols)
	}
	clear(whole)
	if !slices.Equal(more, row[:2]) {
		t.Errorf("Decode shares: %v", more)
	}
}

// TestP1P2AnyArguments hands in columns and bytes of every kind, twice.
func TestP1P2AnyArguments(t *testing.T) {
	lists := [][]api.Column{nil, make([]api.Column, 20)}
	for _, k := range []int{math.MinInt, -1, 0, 1, 2, 3, 4, 5, math.MaxInt} {
		lists = append(lists, columns(k), needed(k), columns(k, k), append(columns(api.Text), needed(k)...))
	}
	values := []api.Value{{}, {Kind: math.MinInt}, {Kind: -1, Num: -1, Text: "x"}, {Kind: 5}, {Kind: math.MaxInt, Text: "x"}, boolean(-1), boolean(1), whole(1), {Kind: api.Real, Num: -1}, point(1), {Kind: api.Text, Num: 1}, text("x"), text(strings.Repeat("x", 1000))}
	for _, cols := range lists {
		every(nil, []byte{0, 1, 2, 3, 200, 255}, 4, func(b []byte) {
			row, e := rows.Decode(cols, b)
			more, e2 := rows.Decode(cols, b)
			if e != e2 || !slices.Equal(row, more) {
				t.Fatalf("Decode(%v, %q): %v, %v and %v, %v", cols, b, row, e, more, e2)
			}
		})
		for _, v := range values {
			for n := range 4 {
				row := slices.Repeat([]api.Value{v}, n)
				b, e := rows.Encode(cols, row)
				more, e2 := rows.Encode(cols, row)
				if e != e2 || e != rows.Fit(cols, row) || !bytes.Equal(b, more) {
					t.Fatalf("Encode(%v, %v): %q, %v and %q, %v", cols, row, b, e, more, e2)
				}
			}
		}
	}
}
