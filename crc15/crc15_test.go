package crc15

import (
	"math"
	"slices"
	"testing"

	"magneto/api"
	"magneto/bits"
)

// behind is the sum behind a sum, in the document's own words: slow, and apart from the program.
func behind(sum, level int) int {
	double := sum + sum
	if double >= 32768 {
		double -= 32768
	}
	if level == 0 && sum >= 16384 || level == 1 && sum < 16384 {
		double ^= 17817
	}
	return double
}

// rows are all rows of so many levels.
func rows(n int) [][]int {
	var all [][]int
	for v := range 1 << n {
		l, _ := bits.Of(uint64(v), n)
		all = append(all, l)
	}
	return all
}

// mixed is a row of so many levels, without a pattern that a sum could have too.
func mixed(n int) []int {
	l := make([]int, n)
	x := uint32(n + 1)
	for i := range l {
		x = x*1664525 + 1013904223
		l[i] = int(x >> 31)
	}
	return l
}

// sumOf is the sum of levels that have one.
func sumOf(t *testing.T, l []int) int {
	t.Helper()
	sum, e := Sum(l)
	if e != api.OK || sum < 0 || sum > 32767 {
		t.Fatalf("Sum(%v) = %d, %v", l, sum, e)
	}
	return sum
}

// bitsOf are the bits of a sum.
func bitsOf(t *testing.T, sum int) []int {
	t.Helper()
	l, e := Bits(sum)
	if e != api.OK || len(l) != 15 {
		t.Fatalf("Bits(%d) = %v, %v", sum, l, e)
	}
	return l
}

func TestStep(t *testing.T) {
	for _, x := range []struct {
		sum, level, want int
		e                api.Errno
	}{
		{0, 0, 0, api.OK},
		{0, 1, 17817, api.OK},
		{1, 0, 2, api.OK},
		{1, 1, 2 ^ 17817, api.OK},
		{17817, 0, 20139, api.OK},
		{16383, 0, 32766, api.OK},
		{16383, 1, 32766 ^ 17817, api.OK},
		{16384, 0, 17817, api.OK},
		{16384, 1, 0, api.OK},
		{32767, 0, 32766 ^ 17817, api.OK},
		{32767, 1, 32766, api.OK},
		{-1, 0, 0, api.ErrRange},
		{-1, 1, 0, api.ErrRange},
		{32768, 0, 0, api.ErrRange},
		{32768, 1, 0, api.ErrRange},
		{math.MinInt, 0, 0, api.ErrRange},
		{math.MaxInt, 1, 0, api.ErrRange},
		{1 << 32, 0, 0, api.ErrRange}, // 0, if only its lowest bits were looked at
		{0, 2, 0, api.ErrRange},
		{0, -1, 0, api.ErrRange},
		{17817, 2, 0, api.ErrRange},
		{16384, -1, 0, api.ErrRange},
		{32767, 256, 0, api.ErrRange},
		{1, math.MinInt, 0, api.ErrRange},
		{1, math.MaxInt, 0, api.ErrRange},
		{-1, 2, 0, api.ErrRange},
	} {
		if sum, e := Step(x.sum, x.level); sum != x.want || e != x.e {
			t.Errorf("Step(%d, %d) = %d, %v, want %d, %v", x.sum, x.level, sum, e, x.want, x.e)
		}
	}
}

func TestStepOfEverySum(t *testing.T) {
	for sum := range 32768 {
		for level := range 2 {
			if got, e := Step(sum, level); got != behind(sum, level) || e != api.OK {
				t.Fatalf("Step(%d, %d) = %d, %v, want %d", sum, level, got, e, behind(sum, level))
			}
		}
	}
}

func TestSum(t *testing.T) {
	for _, x := range []struct {
		l    []int
		want int
		e    api.Errno
	}{
		{nil, 0, api.OK},
		{[]int{}, 0, api.OK},
		{[]int{0}, 0, api.OK},
		{[]int{0, 0, 0, 0}, 0, api.OK},
		{make([]int, 1000), 0, api.OK},
		{[]int{1}, 17817, api.OK},
		{[]int{1, 0}, 20139, api.OK},
		{[]int{0, 1, 0}, 20139, api.OK},
		{[]int{0, 1}, 17817, api.OK},
		{[]int{1, 1}, 2866, api.OK},
		{[]int{2}, 0, api.ErrRange},
		{[]int{-1}, 0, api.ErrRange},
		{[]int{1, 2}, 0, api.ErrRange},
		{[]int{2, 1}, 0, api.ErrRange},
		{[]int{1, 0, -1, 1}, 0, api.ErrRange},
		{[]int{1, 0, 1, math.MaxInt}, 0, api.ErrRange},
		{append(mixed(100), 2), 0, api.ErrRange},
	} {
		if sum, e := Sum(x.l); sum != x.want || e != x.e {
			t.Errorf("Sum(%v) = %d, %v, want %d, %v", x.l, sum, e, x.want, x.e)
		}
	}
}

func TestSumIsStepByStep(t *testing.T) {
	var all [][]int
	for n := range 10 {
		all = append(all, rows(n)...)
	}
	for _, n := range []int{14, 15, 16, 83, 98, 118, 1000} {
		all = append(all, mixed(n))
	}
	for _, l := range all {
		want, stepped := 0, 0
		for _, level := range l {
			want = behind(want, level)
			stepped, _ = Step(stepped, level)
		}
		if got := sumOf(t, l); got != want || got != stepped {
			t.Fatalf("Sum(%v) = %d, want %d, by Step %d", l, got, want, stepped)
		}
	}
}

// The check value that catalogues give for the CRC-15 of CAN: of the text 123456789.
func TestSumOfTheCatalogue(t *testing.T) {
	var l []int
	for _, b := range []byte("123456789") {
		row, _ := bits.Of(uint64(b), 8)
		l = append(l, row...)
	}
	if sum := sumOf(t, l); sum != 0x059e {
		t.Errorf("sum = %#x, want 0x059e", sum)
	}
}

func TestBits(t *testing.T) {
	for _, x := range []struct {
		sum  int
		text string
		e    api.Errno
	}{
		{0, "000000000000000", api.OK},
		{1, "000000000000001", api.OK},
		{17817, "100010110011001", api.OK},
		{16383, "011111111111111", api.OK},
		{16384, "100000000000000", api.OK},
		{32767, "111111111111111", api.OK},
		{-1, "", api.ErrRange},
		{32768, "", api.ErrRange},
		{math.MinInt, "", api.ErrRange},
		{math.MaxInt, "", api.ErrRange},
		{1 << 32, "", api.ErrRange},
	} {
		l, e := Bits(x.sum)
		if text, _, _ := bits.Text(l); text != x.text || e != x.e {
			t.Errorf("Bits(%d) = %v, %v, want %s, %v", x.sum, l, e, x.text, x.e)
		}
		if e != api.OK && len(l) != 0 {
			t.Errorf("Bits(%d) answers %v beside %v", x.sum, l, e)
		}
	}
	for sum := range 32768 {
		if n, e := bits.Value(bitsOf(t, sum)); n != uint64(sum) || e != api.OK {
			t.Fatalf("Bits(%d) are worth %d, %v", sum, n, e)
		}
	}
}

func TestRight(t *testing.T) {
	one, two := bitsOf(t, 17817), bitsOf(t, 20139)
	for _, x := range []struct {
		name string
		l    []int
		want bool
	}{
		{"nil", nil, false},
		{"no levels", []int{}, false},
		{"one level", []int{0}, false},
		{"14 levels", make([]int, 14), false},
		{"15 levels", make([]int, 15), true},
		{"15 levels that end with 1", append(make([]int, 14), 1), false},
		{"15 levels that begin with 1", append([]int{1}, make([]int, 14)...), false},
		{"14 levels of a sum", one[:14], false},
		{"a sum alone", one, false},
		{"1 and its sum", append([]int{1}, one...), true},
		{"0 and the sum of 1", append([]int{0}, one...), false},
		{"1 and the sum of 1, 0", append([]int{1}, two...), false},
		{"1, 0 and their sum", append([]int{1, 0}, two...), true},
		{"1, 0 and the sum of 1", append([]int{1, 0}, one...), false},
		{"a sum and a level more", append(append([]int{1}, one...), 1), false},
		{"the sum from its end on", append([]int{1}, 1, 0, 0, 1, 1, 0, 0, 1, 1, 0, 1, 0, 0, 0, 1), false},
		{"no level ahead", append([]int{2}, make([]int, 15)...), false},
		{"no level ahead, below 0", append([]int{0, -1}, make([]int, 15)...), false},
		{"no level ahead of few", append([]int{2}, make([]int, 13)...), false},
		{"15 numbers, the first no level", append([]int{2}, make([]int, 14)...), false},
		{"15 numbers, the last no level", append(make([]int, 14), 2), false},
		{"16 numbers, the last no level", append(make([]int, 15), 2), false},
	} {
		if got := Right(x.l); got != x.want {
			t.Errorf("%s: Right(%v) = %v", x.name, x.l, got)
		}
	}
}

func TestNoLevelIsNotRight(t *testing.T) {
	for _, n := range []int{0, 1, 7, 50} {
		l := mixed(n)
		l = append(l, bitsOf(t, sumOf(t, l))...)
		for i, level := range l {
			// The greater ones are the level again, if only some lowest bits were looked at.
			for _, wrong := range []int{2, -1, level + 2, level - 2, level + 256, level + 1<<32, math.MinInt, math.MaxInt} {
				if l[i] = wrong; wrong>>1 != 0 && Right(l) {
					t.Errorf("Right(%v)", l)
				}
			}
			l[i] = level
		}
		if !Right(l) {
			t.Errorf("not Right(%v)", l)
		}
	}
}

func TestLevelsWithTheirSumAreRight(t *testing.T) {
	for n := range 130 {
		l := mixed(n)
		l = append(l, bitsOf(t, sumOf(t, l))...)
		if !Right(l) {
			t.Errorf("not Right(%v)", l)
		}
		if sum := sumOf(t, l); sum != 0 {
			t.Errorf("Sum(%v) = %d, want 0", l, sum)
		}
	}
}

func TestJustOneRowBehindIsRight(t *testing.T) {
	for _, n := range []int{0, 1, 4, 19, 83} {
		ahead := mixed(n)
		sum := sumOf(t, ahead)
		for other := range 32768 {
			l := append(slices.Clone(ahead), bitsOf(t, other)...)
			if Right(l) != (other == sum) {
				t.Fatalf("Right(%v) = %v, the sum is %d", l, Right(l), sum)
			}
			if (sumOf(t, l) == 0) != (other == sum) {
				t.Fatalf("Sum(%v) = %d, the sum of those ahead is %d", l, sumOf(t, l), sum)
			}
		}
	}
}

// xored is a row, with another one laid over it from a place on: where that has 1, the level is turned.
func xored(l, over []int, at int) []int {
	out := slices.Clone(l)
	for i, level := range over {
		out[at+i] ^= level
	}
	return out
}

func TestTurnedLevelsHaveAnotherSum(t *testing.T) {
	var turns [][]int
	for n := 1; n <= 7; n++ {
		turns = append(turns, rows(n)...)
	}
	for n := range 15 {
		turn := make([]int, n+1)
		for i := range turn {
			turn[i] = 1
		}
		turns = append(turns, turn, append([]int{1}, mixed(n)...))
	}
	for _, n := range []int{1, 15, 16, 40} {
		l := mixed(n)
		sum := sumOf(t, l)
		for _, turn := range turns {
			if !slices.Contains(turn, 1) {
				continue
			}
			for at := 0; at+len(turn) <= n; at++ {
				if turned := xored(l, turn, at); sumOf(t, turned) == sum {
					t.Fatalf("%v and %v both have the sum %d", l, turned, sum)
				}
			}
		}
	}
}

// 15 is the most that is promised: 16 side by side can go unseen, and do just where the whole divisor lies.
func TestSixteenTurnedCanKeepTheSum(t *testing.T) {
	divisor, _ := bits.Of(32768+17817, 16)
	l := mixed(40)
	if turned := xored(l, divisor, 9); sumOf(t, turned) != sumOf(t, l) {
		t.Errorf("the sums are %d and %d", sumOf(t, turned), sumOf(t, l))
	}
}

func TestSumsOfRowsXorEachOther(t *testing.T) {
	for n := range 6 {
		for _, a := range rows(n) {
			for _, b := range rows(n) {
				if sumOf(t, a)^sumOf(t, b) != sumOf(t, xored(a, b, 0)) {
					t.Fatalf("the sums of %v and %v", a, b)
				}
			}
		}
	}
	for _, n := range []int{15, 40, 118} {
		a, b := mixed(n), mixed(2 * n)[n:]
		if sumOf(t, a)^sumOf(t, b) != sumOf(t, xored(a, b, 0)) {
			t.Errorf("the sums of %v and %v", a, b)
		}
	}
}

func TestArgumentsAreLeftAsTheyAre(t *testing.T) {
	for _, l := range [][]int{{}, {1, 0, 1}, {1, 2}, make([]int, 15), append(make([]int, 15), 2)} {
		whole := append(slices.Clone(l), 77, 78)
		before := slices.Clone(whole)
		Sum(whole[:len(l)])
		Right(whole[:len(l)])
		if !slices.Equal(whole, before) {
			t.Errorf("%v has become %v", before, whole)
		}
	}
}

func TestAnswersShareNothing(t *testing.T) {
	first, second := bitsOf(t, 17817), bitsOf(t, 17817)
	for i := range first {
		first[i] = 9
	}
	if n, e := bits.Value(second); n != 17817 || e != api.OK {
		t.Errorf("the second answer has become %v", second)
	}
	if n, _ := bits.Value(bitsOf(t, 17817)); n != 17817 {
		t.Errorf("a later answer is worth %d", n)
	}
}

// Sums hang on their arguments alone: nothing goes on from one call to the next.
func TestCallsAreApart(t *testing.T) {
	want := sumOf(t, mixed(50))
	Step(32767, 1)
	Sum([]int{1, 1, 2})
	Right(mixed(20))
	if got := sumOf(t, mixed(50)); got != want {
		t.Errorf("Sum = %d, before %d", got, want)
	}
}
