package bits

import (
	"math"
	"slices"
	"strings"
	"testing"

	"magneto/api"
)

// rows are all rows of so many of the given numbers.
func rows(n int, of ...int) [][]int {
	all := [][]int{nil}
	for range n {
		var longer [][]int
		for _, l := range all {
			for _, x := range of {
				longer = append(longer, append(slices.Clone(l), x))
			}
		}
		all = longer
	}
	return all
}

// roomy is a row with a mark behind its length, and the whole of its memory.
func roomy(l []int) (row, whole []int) {
	whole = append(slices.Clone(l), 77)
	return whole[:len(l)], whole
}

func TestCheck(t *testing.T) {
	for _, x := range []struct {
		l  []int
		at int
	}{
		{nil, -1},
		{[]int{}, -1},
		{[]int{0}, -1},
		{[]int{1}, -1},
		{[]int{0, 1, 1, 0}, -1},
		{[]int{2}, 0},
		{[]int{-1}, 0},
		{[]int{0, 1, 2}, 2},
		{[]int{0, -1, 2}, 1},
		{[]int{1, math.MaxInt, 0}, 1},
		{[]int{1, 0, math.MinInt}, 2},
		{[]int{256}, 0}, // 0, if only a byte of it were looked at
		{[]int{1 << 32}, 0},
		{[]int{'0', '1'}, 0},
	} {
		if at := Check(x.l); at != x.at {
			t.Errorf("Check(%v) = %d, want %d", x.l, at, x.at)
		}
	}
}

func TestParse(t *testing.T) {
	for _, x := range []struct {
		s  string
		l  []int
		at int
		e  api.Errno
	}{
		{"", nil, 0, api.OK},
		{"0", []int{0}, 0, api.OK},
		{"1", []int{1}, 0, api.OK},
		{"0101", []int{0, 1, 0, 1}, 0, api.OK},
		{"1100", []int{1, 1, 0, 0}, 0, api.OK},
		{"01x", nil, 2, api.ErrForm},
		{"x01", nil, 0, api.ErrForm},
		{"0x1y", nil, 1, api.ErrForm},
		{"1 0", nil, 1, api.ErrForm},
		{"10\n", nil, 2, api.ErrForm},
		{"0\x00", nil, 1, api.ErrForm},
		{"0\x01", nil, 1, api.ErrForm},
		{"1é0", nil, 1, api.ErrForm},
		{"1\xff", nil, 1, api.ErrForm},
		{"１", nil, 0, api.ErrForm}, // a one of another alphabet
	} {
		l, at, e := Parse(x.s)
		if !slices.Equal(l, x.l) || at != x.at || e != x.e {
			t.Errorf("Parse(%q) = %v, %d, %v, want %v, %d, %v", x.s, l, at, e, x.l, x.at, x.e)
		}
		if e != api.OK && l != nil {
			t.Errorf("Parse(%q) tells levels beside an error", x.s)
		}
	}
}

func TestParseOfEachByte(t *testing.T) {
	for b := range 256 {
		s := "01" + string([]byte{byte(b)}) + "1"
		l, at, e := Parse(s)
		if b == '0' || b == '1' {
			if want := []int{0, 1, b - '0', 1}; !slices.Equal(l, want) || at != 0 || e != api.OK {
				t.Errorf("Parse(%q) = %v, %d, %v", s, l, at, e)
			}
		} else if l != nil || at != 2 || e != api.ErrForm {
			t.Errorf("Parse(%q) = %v, %d, %v", s, l, at, e)
		}
	}
}

func TestText(t *testing.T) {
	for _, x := range []struct {
		l  []int
		s  string
		at int
		e  api.Errno
	}{
		{nil, "", 0, api.OK},
		{[]int{}, "", 0, api.OK},
		{[]int{0}, "0", 0, api.OK},
		{[]int{1}, "1", 0, api.OK},
		{[]int{0, 1, 0, 1}, "0101", 0, api.OK},
		{[]int{2}, "", 0, api.ErrRange},
		{[]int{0, 1, 2, -1}, "", 2, api.ErrRange},
		{[]int{1, -1}, "", 1, api.ErrRange},
		{[]int{1, 256}, "", 1, api.ErrRange},
		{[]int{math.MinInt, 0}, "", 0, api.ErrRange},
		{[]int{0, math.MaxInt}, "", 1, api.ErrRange},
	} {
		if s, at, e := Text(x.l); s != x.s || at != x.at || e != x.e {
			t.Errorf("Text(%v) = %q, %d, %v, want %q, %d, %v", x.l, s, at, e, x.s, x.at, x.e)
		}
	}
}

func TestOf(t *testing.T) {
	for _, x := range []struct {
		n     uint64
		width int
		l     []int
	}{
		{5, 4, []int{0, 1, 0, 1}},
		{5, 3, []int{1, 0, 1}},
		{5, 2, []int{0, 1}},
		{5, 1, []int{1}},
		{5, 0, nil},
		{0, 0, nil},
		{math.MaxUint64, 0, nil},
		{6, 3, []int{1, 1, 0}},
		{1 << 63, 3, []int{0, 0, 0}},
		{math.MaxUint64, 63, slices.Repeat([]int{1}, 63)},
		{math.MaxUint64, 64, slices.Repeat([]int{1}, 64)},
		{0, 64, make([]int, 64)},
		{1 << 63, 64, append([]int{1}, make([]int, 63)...)},
		{1, 64, append(make([]int, 63), 1)},
	} {
		if l, e := Of(x.n, x.width); !slices.Equal(l, x.l) || e != api.OK {
			t.Errorf("Of(%d, %d) = %v, %v, want %v", x.n, x.width, l, e, x.l)
		}
	}
	for _, width := range []int{-1, -64, 65, 66, 128, 256, 1 << 32, math.MinInt, math.MaxInt} {
		if l, e := Of(5, width); l != nil || e != api.ErrRange {
			t.Errorf("Of(5, %d) = %v, %v", width, l, e)
		}
	}
}

func TestValue(t *testing.T) {
	ones := slices.Repeat([]int{1}, 64)
	long := make([]int, 65)
	for _, x := range []struct {
		l []int
		n uint64
		e api.Errno
	}{
		{nil, 0, api.OK},
		{[]int{}, 0, api.OK},
		{[]int{0}, 0, api.OK},
		{[]int{1}, 1, api.OK},
		{[]int{1, 0}, 2, api.OK},
		{[]int{0, 1, 0, 1}, 5, api.OK},
		{[]int{1, 1, 0}, 6, api.OK},
		{ones[:63], math.MaxUint64 >> 1, api.OK},
		{ones, math.MaxUint64, api.OK},
		{append([]int{1}, make([]int, 63)...), 1 << 63, api.OK},
		{long[:64], 0, api.OK},
		{long, 0, api.ErrLong}, // zeros ahead count, too
		{append(slices.Clone(ones), 1), 0, api.ErrLong},
		{append([]int{2}, ones...), 0, api.ErrLong}, // it is named ahead of ErrRange
		{append(slices.Clone(ones), -1), 0, api.ErrLong},
		{make([]int, 1000), 0, api.ErrLong},
		{append(slices.Clone(ones[:63]), 2), 0, api.ErrRange},
		{[]int{2}, 0, api.ErrRange},
		{[]int{-1, 1}, 0, api.ErrRange},
		{[]int{1, 0, math.MaxInt}, 0, api.ErrRange},
		{[]int{math.MinInt}, 0, api.ErrRange},
	} {
		if n, e := Value(x.l); n != x.n || e != x.e {
			t.Errorf("Value(%v) = %d, %v, want %d, %v", x.l, n, e, x.n, x.e)
		}
	}
}

func TestRuns(t *testing.T) {
	for _, x := range []struct {
		l, runs []int
		longest int
	}{
		{nil, nil, 0},
		{[]int{}, nil, 0},
		{[]int{0}, []int{1}, 1},
		{[]int{1, 1, 0}, []int{2, 1}, 2},
		{[]int{1, 0, 0}, []int{1, 2}, 2},
		{[]int{0, 1, 0, 1}, []int{1, 1, 1, 1}, 1},
		{[]int{0, 1, 1, 1, 0, 0}, []int{1, 3, 2}, 3},
		{[]int{0, 0, 1, 0, 0}, []int{2, 1, 2}, 2},
		{[]int{7, 7, 7, -1, -1, 7}, []int{3, 2, 1}, 3},
		{[]int{1, -1, 1, -1}, []int{1, 1, 1, 1}, 1},
		{[]int{math.MinInt, math.MaxInt, math.MaxInt}, []int{1, 2}, 2},
		{[]int{0, 256, 1 << 32}, []int{1, 1, 1}, 1},
		{slices.Repeat([]int{1}, 100), []int{100}, 100},
	} {
		if runs := Runs(x.l); !slices.Equal(runs, x.runs) {
			t.Errorf("Runs(%v) = %v, want %v", x.l, runs, x.runs)
		}
		if longest := Longest(x.l); longest != x.longest {
			t.Errorf("Longest(%v) = %d, want %d", x.l, longest, x.longest)
		}
	}
}

func TestTextsAreReadAndWrittenAsOneRow(t *testing.T) {
	for n := range 9 {
		texts := map[string]bool{}
		for _, l := range rows(n, 0, 1) {
			s, _, e := Text(l)
			if e != api.OK || len(s) != n || texts[s] {
				t.Fatalf("Text(%v) = %q, %v", l, s, e)
			}
			texts[s] = true
			if back, _, e := Parse(s); !slices.Equal(back, l) || e != api.OK {
				t.Fatalf("Parse(%q) = %v, %v", s, back, e)
			}
			if again, _, e := Text(l); again != s || e != api.OK {
				t.Fatalf("Text(%v) = %q at first, %q then", l, s, again)
			}
		}
	}
	long := strings.Repeat("0110", 5000)
	l, _, e := Parse(long)
	if s, _, f := Text(l); s != long || e != api.OK || f != api.OK {
		t.Error("a long text does not come back")
	}
}

func TestNumbersAreToldByTheirBits(t *testing.T) {
	for _, n := range []uint64{0, 1, 2, 5, 0x4599, 1 << 31, 1 << 32, 0x0123456789abcdef, 1 << 63, math.MaxUint64 - 1, math.MaxUint64} {
		for width := range 65 {
			l, e := Of(n, width)
			if len(l) != width || e != api.OK || Check(l) != -1 {
				t.Fatalf("Of(%d, %d) = %v, %v", n, width, l, e)
			}
			lowest := n
			if width < 64 {
				lowest &= 1<<width - 1
			}
			if back, e := Value(l); back != lowest || e != api.OK {
				t.Fatalf("Value(Of(%d, %d)) = %d, %v", n, width, back, e)
			}
			padded := append(make([]int, 64-width), l...)
			if back, e := Value(padded); back != lowest || e != api.OK {
				t.Fatalf("with zeros ahead, Value(Of(%d, %d)) = %d, %v", n, width, back, e)
			}
		}
	}
	for width := range 9 {
		for _, l := range rows(width, 0, 1) {
			n, _ := Value(l)
			if back, e := Of(n, width); !slices.Equal(back, l) || e != api.OK {
				t.Fatalf("Of(Value(%v)) = %v, %v", l, back, e)
			}
		}
	}
}

func TestRunsHaveAllNumbers(t *testing.T) {
	for n := range 8 {
		for _, l := range rows(n, 0, 1, 5) {
			begins := map[int]bool{}
			at, longest := 0, 0
			for _, run := range Runs(l) {
				if run < 1 {
					t.Fatalf("Runs(%v) has one of %d", l, run)
				}
				begins[at] = true
				at += run
				longest = max(longest, run)
			}
			if at != n {
				t.Fatalf("Runs(%v) have %d numbers", l, at)
			}
			for i := range l {
				if differs := i == 0 || l[i] != l[i-1]; differs != begins[i] {
					t.Fatalf("Runs(%v) = %v is wrong at %d", l, Runs(l), i)
				}
			}
			if Longest(l) != longest {
				t.Fatalf("Longest(%v) = %d, want %d", l, Longest(l), longest)
			}
		}
	}
}

func TestArgumentsAreNotWrittenInto(t *testing.T) {
	for _, l := range [][]int{nil, {0}, {0, 1, 1, 0}, {1, 1, 2, -1}, make([]int, 65)} {
		row, whole := roomy(l)
		before := slices.Clone(whole)
		Text(row)
		Value(row)
		Runs(row)
		Longest(row)
		Check(row)
		if !slices.Equal(whole, before) {
			t.Errorf("%v became %v", before, whole)
		}
	}
}

func TestAnswersShareNothing(t *testing.T) {
	for name, answer := range map[string]func() []int{
		"Parse": func() []int { l, _, _ := Parse("0110"); return l },
		"Of":    func() []int { l, _ := Of(6, 4); return l },
		"Runs":  func() []int { return Runs([]int{1, 1, 0, 1}) },
	} {
		first, second := answer(), answer()
		want := slices.Clone(second)
		for i := range first {
			first[i] = 99
		}
		if !slices.Equal(second, want) || !slices.Equal(answer(), want) {
			t.Errorf("%s hands out the same memory twice", name)
		}
	}
	row := []int{1, 1}
	runs := Runs(row)
	runs[0] = 99
	if row[0] != 1 || row[1] != 1 {
		t.Error("Runs shares memory with its argument")
	}
}
