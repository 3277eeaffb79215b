package stuff

import (
	"math"
	"slices"
	"strings"
	"testing"

	"magneto/api"
)

// noLevels are numbers that are no levels.
var noLevels = []int{-1, 2, -2, 5, 48, 49, 256, 1 << 32, 1<<32 + 1, math.MaxInt, math.MinInt}

// levels are those that a text of 0 and 1 names.
func levels(text string) []int {
	l := make([]int, len(text))
	for i := range text {
		l[i] = int(text[i] - '0')
	}
	return l
}

// texts are all texts of so many levels.
func texts(n int) []string {
	all := []string{""}
	for range n {
		var longer []string
		for _, text := range all {
			longer = append(longer, text+"0", text+"1")
		}
		all = longer
	}
	return all
}

// upTo are all texts of at most so many levels.
func upTo(n int) []string {
	var all []string
	for k := range n + 1 {
		all = append(all, texts(k)...)
	}
	return all
}

// endsFull tells whether a text ends with five alike.
func endsFull(text string) bool {
	return strings.HasSuffix(text, "00000") || strings.HasSuffix(text, "11111")
}

// turned is the text of the level that the last one of a text is not.
func turned(text string) string {
	if strings.HasSuffix(text, "0") {
		return "1"
	}
	return "0"
}

// stuffed is a text stuffed, in the document's own words: slow, and apart from the program.
func stuffed(text string) string {
	told := ""
	for i := range text {
		told += text[i : i+1]
		if endsFull(told) {
			told += turned(told)
		}
	}
	return told
}

// long are texts of many levels: long runs, and runs of all lengths in changing order.
func long() []string {
	all := []string{
		strings.Repeat("0", 1000),
		strings.Repeat("1", 1001),
		strings.Repeat("01", 500),
		"11111" + strings.Repeat("00001111", 120),
		"0" + strings.Repeat("00001111", 120),
		strings.Repeat("0000011111", 100),
		strings.Repeat("000000111111", 90),
	}
	x := uint32(7)
	for most := 2; most <= 12; most++ {
		text := ""
		for len(text) < 400 {
			x = x*1664525 + 1013904223
			text += strings.Repeat(turned(text), 1+int(x>>16)%most)
		}
		all = append(all, text)
	}
	return all
}

// guarded is a row with room behind its length, and what tells whether row and room stand as they did.
func guarded(l []int) ([]int, func() bool) {
	room := append(slices.Clone(l), 7, 7, 7, 7, 7, 7, 7, 7)
	was := slices.Clone(room)
	return room[:len(l)], func() bool { return slices.Equal(room, was) }
}

// wantAdd holds Add and Count of a text against what it is stuffed.
func wantAdd(t *testing.T, text, want string) {
	t.Helper()
	if got := Add(levels(text)); !slices.Equal(got, levels(want)) {
		t.Errorf("Add(%s) = %v, not %s", text, got, want)
	}
	if got := Count(levels(text)); got != len(want)-len(text) {
		t.Errorf("Count(%s) = %d, not %d", text, got, len(want)-len(text))
	}
}

// wantTake holds Take of levels against a row, a place and an error.
func wantTake(t *testing.T, l, row []int, at int, e api.Errno) {
	t.Helper()
	got, gotAt, gotE := Take(l)
	if !slices.Equal(got, row) || gotAt != at || gotE != e {
		t.Errorf("Take(%v) = %v, %d, %v, not %v, %d, %v", l, got, gotAt, gotE, row, at, e)
	}
	if e != api.OK && got != nil {
		t.Errorf("Take(%v) answers a row beside %v", l, e)
	}
}

// wantNext holds Next of levels against what it should tell.
func wantNext(t *testing.T, l []int, is bool, level int) {
	t.Helper()
	if gotIs, got := Next(l); gotIs != is || got != level {
		t.Errorf("Next(%v) = %v, %d, not %v, %d", l, gotIs, got, is, level)
	}
}

// P5.1

func TestAddNamed(t *testing.T) {
	for _, x := range []struct{ text, want string }{
		{"", ""},
		{"0", "0"},
		{"1", "1"},
		{"0000", "0000"},
		{"1111", "1111"},
		{"00000", "000001"},
		{"11111", "111110"},
		{"000000", "0000010"},
		{"111111", "1111101"},
		{"000001", "0000011"},
		{"111110", "1111100"},
		{"111111111", "1111101111"},
		{"000000000", "0000010000"},
		{"1111111111", "111110111110"},
		{"111110000", "11111000001"},
		{"000001111", "00000111110"},
		{"11111000", "111110000"},
		{"0000011110", "000001111100"},
		{"0000011111", "000001111101"},
		{"0111110", "01111100"},
		{"1000001", "10000011"},
		{"0101010101", "0101010101"},
		{"00001000010000", "00001000010000"},
		{"1010111110", "10101111100"},
		{"1010100000", "10101000001"},
		{"1111100001111", "1111100000111110"},
		{"11111000011110", "11111000001111100"},
		{"11111000010000", "1111100000110000"},
	} {
		wantAdd(t, x.text, x.want)
	}
}

func TestAddAll(t *testing.T) {
	for _, text := range append(upTo(14), long()...) {
		wantAdd(t, text, stuffed(text))
	}
}

func TestAddNoLevel(t *testing.T) {
	for _, n := range noLevels {
		for _, text := range []string{"", "0", "0000", "11111", "000000", "0101111101", "11111000010000"} {
			for at := range len(text) + 1 {
				l := slices.Insert(levels(text), at, n)
				if got := Add(l); len(got) != 0 {
					t.Errorf("Add(%v) = %v", l, got)
				}
				if got := Count(l); got != 0 {
					t.Errorf("Count(%v) = %d", l, got)
				}
			}
		}
	}
}

func TestMost(t *testing.T) {
	for _, x := range []struct {
		n, want int
		e       api.Errno
	}{
		{0, 0, api.OK},
		{1, 0, api.OK},
		{2, 0, api.OK},
		{4, 0, api.OK},
		{5, 1, api.OK},
		{6, 1, api.OK},
		{8, 1, api.OK},
		{9, 2, api.OK},
		{12, 2, api.OK},
		{13, 3, api.OK},
		{98, 24, api.OK},
		{118, 29, api.OK},
		{1<<31 - 1, 536870911, api.OK},
		{math.MaxInt, (math.MaxInt - 1) / 4, api.OK},
		{-1, 0, api.ErrRange},
		{-2, 0, api.ErrRange},
		{-3, 0, api.ErrRange},
		{-4, 0, api.ErrRange},
		{-5, 0, api.ErrRange},
		{-100, 0, api.ErrRange},
		{math.MinInt, 0, api.ErrRange},
	} {
		if got, e := Most(x.n); got != x.want || e != x.e {
			t.Errorf("Most(%d) = %d, %v, not %d, %v", x.n, got, e, x.want, x.e)
		}
	}
}

func TestMostIsReached(t *testing.T) {
	for n := range 15 {
		greatest := 0
		for _, text := range texts(n) {
			greatest = max(greatest, Count(levels(text)))
		}
		if most, e := Most(n); most != greatest || e != api.OK {
			t.Errorf("Most(%d) = %d, %v, but %d are added", n, most, e, greatest)
		}
	}
	// Five alike, and then four of the other level each time: with what was added, five.
	row := levels("11111" + strings.Repeat("00001111", 100))
	for n := range len(row) + 1 {
		if most, _ := Most(n); Count(row[:n]) != most {
			t.Errorf("Most(%d) = %d, but %d are added", n, most, Count(row[:n]))
		}
	}
}

// P5.2

func TestTakeNamed(t *testing.T) {
	for _, x := range []struct {
		text, row string
		at        int
		e         api.Errno
	}{
		{"", "", 0, api.OK},
		{"0", "0", 0, api.OK},
		{"0000", "0000", 0, api.OK},
		{"1111", "1111", 0, api.OK},
		{"000001", "00000", 0, api.OK},
		{"111110", "11111", 0, api.OK},
		{"0000011", "000001", 0, api.OK},
		{"1111101111", "111111111", 0, api.OK},
		{"11111000001", "111110000", 0, api.OK},
		{"1111100000", "", 10, api.ErrShort}, // what was added counts for these five
		{"0000011111", "", 10, api.ErrShort},
		{"00000", "", 5, api.ErrShort},
		{"11111", "", 5, api.ErrShort},
		{"100000", "", 6, api.ErrShort},
		{"0101011111", "", 10, api.ErrShort},
		{"000000", "", 5, api.ErrStuff},
		{"111111", "", 5, api.ErrStuff},
		{"0000000", "", 5, api.ErrStuff},
		{"0000001", "", 5, api.ErrStuff},
		{"10000001", "", 6, api.ErrStuff},
		{"01111110", "", 6, api.ErrStuff},
		{"0101000000", "", 9, api.ErrStuff},
		{"00000111111", "", 10, api.ErrStuff},
		{"11111000000", "", 10, api.ErrStuff},
		{"0000001111111", "", 5, api.ErrStuff},
		{"1111110000000", "", 5, api.ErrStuff},
		{"00000011111", "", 5, api.ErrStuff}, // five alike at the end are told behind it
		{"0000000000", "", 5, api.ErrStuff},
	} {
		wantTake(t, levels(x.text), levels(x.row), x.at, x.e)
	}
}

// TestTakeAll finds what a row was by stuffing all rows, and where six are alike by looking at each six.
func TestTakeAll(t *testing.T) {
	const most = 14
	was := map[string]string{}
	for _, text := range upTo(most) {
		was[stuffed(text)] = text
	}
	for _, text := range upTo(most) {
		at, e := wrong(text)
		row, is := was[text]
		if is != (e == api.OK) {
			t.Fatal(text, is, e)
		}
		wantTake(t, levels(text), levels(row), at, e)
	}
	for _, text := range long() {
		at, e := wrong(text)
		if e != api.OK {
			wantTake(t, levels(text), nil, at, e)
		}
	}
}

// wrong is the place at which a text is not stuffed, and how.
func wrong(text string) (int, api.Errno) {
	for at := 5; at < len(text); at++ {
		if six := text[at-5 : at+1]; six == "000000" || six == "111111" {
			return at, api.ErrStuff
		}
	}
	if endsFull(text) {
		return len(text), api.ErrShort
	}
	return 0, api.OK
}

func TestTakeNoLevel(t *testing.T) {
	for _, n := range noLevels {
		for _, text := range []string{"", "1", "0000", "00000", "111110", "000000", "01111110", "1010000000111"} {
			for at := range len(text) + 1 {
				l := slices.Insert(levels(text), at, n)
				wantTake(t, l, nil, at, api.ErrRange)
				// The first of several is told.
				wantTake(t, append(l, n, 2, -1), nil, at, api.ErrRange)
			}
		}
		// Six that are alike, but are no levels.
		wantTake(t, slices.Repeat([]int{n}, 6), nil, 0, api.ErrRange)
		wantTake(t, slices.Repeat([]int{n}, 5), nil, 0, api.ErrRange)
	}
}

func TestNextNamed(t *testing.T) {
	for _, x := range []struct {
		text  string
		is    bool
		level int
	}{
		{"", false, 0},
		{"0", false, 0},
		{"1", false, 0},
		{"0000", false, 0},
		{"1111", false, 0},
		{"10000", false, 0},
		{"01111", false, 0},
		{"00000", true, 1},
		{"11111", true, 0},
		{"100000", true, 1},
		{"011111", true, 0},
		{"000000", true, 1},
		{"111111", true, 0},
		{"0000000000", true, 1},
		{"11111111111", true, 0},
		{"000001", false, 0},
		{"111110", false, 0},
		{"0000001", false, 0},
		{"0000001111", false, 0},
		{"00000011111", true, 0}, // six alike ahead of them are not asked
		{"11111100000", true, 1},
		{"1111100000", true, 1},
	} {
		wantNext(t, levels(x.text), x.is, x.level)
	}
}

func TestNextAll(t *testing.T) {
	for _, text := range append(upTo(13), long()...) {
		if endsFull(text) {
			wantNext(t, levels(text), true, levels(turned(text))[0])
		} else {
			wantNext(t, levels(text), false, 0)
		}
	}
}

func TestNextNoLevel(t *testing.T) {
	for _, n := range noLevels {
		for _, text := range []string{"", "1", "0000", "00000", "11111", "000000", "111111", "0101011111"} {
			for at := range len(text) + 1 {
				wantNext(t, slices.Insert(levels(text), at, n), false, 0)
			}
		}
		wantNext(t, slices.Repeat([]int{n}, 5), false, 0)
		wantNext(t, slices.Repeat([]int{n}, 6), false, 0)
	}
}

// P5.3

func TestThereAndBack(t *testing.T) {
	for _, text := range append(upTo(13), long()...) {
		l := Add(levels(text))
		wantTake(t, l, levels(text), 0, api.OK)
		for at := 5; at < len(l); at++ {
			if slices.Max(l[at-5:at+1]) == slices.Min(l[at-5:at+1]) {
				t.Errorf("Add(%s) has six alike at %d", text, at)
			}
		}
	}
}

func TestBackAndThere(t *testing.T) {
	for _, text := range upTo(14) {
		if row, _, e := Take(levels(text)); e == api.OK && !slices.Equal(Add(row), levels(text)) {
			t.Errorf("Take(%s) = %v, stuffed %v", text, row, Add(row))
		}
	}
}

func TestEachLevelIsNextOrOfTheRow(t *testing.T) {
	for _, text := range append(upTo(11), long()...) {
		l, row := Add(levels(text)), levels(text)
		for n, level := range l {
			want := 0
			is, next := Next(l[:n])
			switch {
			case is:
				want = next
			case len(row) == 0:
				t.Fatalf("Add(%s): nobody tells the level %d", text, n)
			default:
				want, row = row[0], row[1:]
			}
			if level != want {
				t.Fatalf("Add(%s) has %d at %d, not %d", text, level, n, want)
			}
		}
		if is, _ := Next(l); is || len(row) != 0 {
			t.Errorf("Add(%s) ends too early", text)
		}
	}
}

// R1, R2, R3

func TestArgumentsStay(t *testing.T) {
	for _, text := range []string{"", "0101", "00000", "111110", "000000", "1111100001111", "0000011110"} {
		for _, tail := range [][]int{nil, {2}, {0, -1, 0}} {
			l, stays := guarded(append(levels(text), tail...))
			Add(l)
			Take(l)
			Count(l)
			Next(l)
			if !stays() {
				t.Errorf("%s, %v: what was handed in is changed", text, tail)
			}
		}
	}
}

func TestAnswersShareNothing(t *testing.T) {
	for _, text := range []string{"0101", "00000", "1111100001111", "000001111100"} {
		l, stays := guarded(levels(text))
		one, two := Add(l), Add(l)
		spoil(one)
		if !stays() || !slices.Equal(two, levels(stuffed(text))) || !slices.Equal(Add(l), two) {
			t.Errorf("Add(%s): answers share memory", text)
		}
		s, stays := guarded(levels(stuffed(text)))
		one, _, _ = Take(s)
		two, _, _ = Take(s)
		spoil(one)
		if !stays() || !slices.Equal(two, l) {
			t.Errorf("Take(%s): answers share memory", stuffed(text))
		}
	}
}

// spoil writes over a row and all that stands behind its length.
func spoil(l []int) {
	l = l[:cap(l)]
	for i := range l {
		l[i] = 9
	}
}

func TestCallsKeepNothing(t *testing.T) {
	for _, ahead := range [][]int{nil, levels("0000"), levels("11111"), levels("000000"), {0, 0, 0, 2}} {
		Add(ahead)
		Take(ahead)
		Count(ahead)
		Next(ahead)
		wantAdd(t, "000001", "0000011")
		wantTake(t, levels("111110"), levels("11111"), 0, api.OK)
		wantNext(t, levels("0"), false, 0)
	}
}
