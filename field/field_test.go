package field

import (
	"fmt"
	"math"
	"slices"
	"testing"

	"magneto/api"
	"magneto/frame"
)

// made is a row of levels that was put together field by field, and what the document says of it.
type made struct {
	l     []int
	kind  []int // the field of each level
	nth   []int // which one of it that is
	ctrl  int   // how many levels there are up to the end of Ctrl
	ahead int   // how many are ahead of Sum
	f     api.Frame
}

// plan is what a row is put together of. A frame's own levels have noughts where it says nothing of them.
type plan struct {
	start    int
	id       int
	ext, rtr bool
	same     int // the level at the place 12 of long ones
	reserved int // the reserved levels, as a number
	told     int
	data     []byte // as many as there are of Data
}

// put puts the levels that a text names, as those of a field.
func (m *made) put(kind int, text string) {
	for i, c := range text {
		m.l = append(m.l, int(c-'0'))
		m.kind = append(m.kind, kind)
		m.nth = append(m.nth, i)
	}
}

// build puts a row together, in the document's own words, apart from the program.
func build(p plan) made {
	var m made
	remote := 0
	if p.rtr {
		remote = 1
	}
	m.put(Start, fmt.Sprint(p.start))
	if p.ext {
		m.put(Arb, fmt.Sprintf("%011b%d1%018b%d", p.id/262144, p.same, p.id%262144, remote))
		m.put(Ctrl, fmt.Sprintf("%02b%04b", p.reserved, p.told))
	} else {
		m.put(Arb, fmt.Sprintf("%011b%d0", p.id, remote))
		m.put(Ctrl, fmt.Sprintf("%01b%04b", p.reserved, p.told))
	}
	m.ctrl = len(m.l)
	data := ""
	for _, b := range p.data {
		data += fmt.Sprintf("%08b", b)
	}
	m.put(Data, data)
	m.ahead = len(m.l)
	m.put(Sum, fmt.Sprintf("%015b", remainder(m.l)))
	m.put(Delim, "1")
	m.put(Slot, "1")
	m.put(AckDelim, "1")
	m.put(End, "1111111")
	m.f = api.Frame{ID: p.id, Ext: p.ext, Rtr: p.rtr, Len: min(p.told, 8)}
	copy(m.f.Data[:], p.data)
	return m
}

// remainder is the CRC-15 of levels, by a division on paper: all levels and 15 noughts, less the divisor wherever a 1 is first.
func remainder(l []int) int {
	divisor := []int{1, 1, 0, 0, 0, 1, 0, 1, 1, 0, 0, 1, 1, 0, 0, 1}
	rest := append(slices.Clone(l), make([]int, 15)...)
	for i := range l {
		if rest[i] == 1 {
			for k, d := range divisor {
				rest[i+k] ^= d
			}
		}
	}
	n := 0
	for _, x := range rest[len(l):] {
		n = 2*n + x
	}
	return n
}

// pattern are n bytes without a mirror, that differ from each other.
func pattern(n int) []byte {
	l := make([]byte, n)
	for i := range l {
		l[i] = byte(0xB1*(i+1) + n)
	}
	return l
}

// ids are IDs at which something may change, of a kind.
func ids(ext bool) []int {
	l := []int{0, 1, 2, 0x123, 0x555, 1024, 2046, 2047}
	if ext {
		l = append(l, 2048, 0x12345, 1<<17, 1<<18-1, 1<<18, 1<<18|1, 0x0A5A5A5A, 0x15555555, 1<<28, 536870910, 536870911)
	}
	return l
}

// plans are rows of frames that may be, as they are told themselves.
func plans() []plan {
	var l []plan
	for _, ext := range []bool{false, true} {
		same := 0
		if ext {
			same = 1
		}
		for _, id := range ids(ext) {
			for n := range 9 {
				l = append(l,
					plan{id: id, ext: ext, same: same, told: n, data: pattern(n)},
					plan{id: id, ext: ext, same: same, told: n, data: make([]byte, n)},
					plan{id: id, ext: ext, same: same, told: n, data: slices.Repeat([]byte{255}, n)},
					plan{id: id, ext: ext, same: same, told: n, rtr: true})
			}
		}
	}
	return l
}

// strange are rows that no frame tells of itself: reserved levels that are 1, the other level at the place 12, a first level that is 1, and 9 to 15 bytes told.
func strange() []plan {
	var l []plan
	for _, p := range plans() {
		if p.told == 0 || p.told == 3 {
			l = append(l, turned(p)...)
		}
		if p.told == 8 {
			for told := 8; told < 16; told++ {
				p.told = told
				l = append(l, p)
				l = append(l, turned(p)...)
			}
		}
	}
	return l
}

// turned are rows that differ from one in levels that are not asked for fields.
func turned(p plan) []plan {
	a, b, c := p, p, p
	a.reserved = 1
	b.start = 1
	c.start, c.reserved = 1, 1
	l := []plan{a, b, c}
	if p.ext {
		d, e := p, p
		d.same = 1 - p.same
		e.same, e.reserved = 1-p.same, 3
		l = append(l, d, e)
	}
	return l
}

// rows are all of these, put together.
func rows() []made {
	var l []made
	for _, p := range slices.Concat(plans(), strange()) {
		l = append(l, build(p))
	}
	return l
}

// few are some rows of each kind.
func few() []made {
	var l []made
	for _, ext := range []bool{false, true} {
		for _, rtr := range []bool{false, true} {
			for _, told := range []int{0, 1, 8, 9, 15} {
				p := plan{id: 0x123, ext: ext, rtr: rtr, told: told}
				if !rtr {
					p.data = pattern(min(told, 8))
				}
				l = append(l, build(p))
			}
		}
	}
	return l
}

// wrongFrames are frames that may not be.
func wrongFrames() []api.Frame {
	return []api.Frame{
		{ID: -1}, {ID: 2048}, {ID: 536870911}, {ID: math.MinInt}, {ID: math.MaxInt}, {ID: 2048, Rtr: true},
		{ID: -1, Ext: true}, {ID: 536870912, Ext: true}, {ID: math.MinInt, Ext: true}, {ID: math.MaxInt, Ext: true}, {ID: 1 << 32, Ext: true},
		{Len: -1}, {Len: 9}, {Len: 15}, {Len: 16}, {Len: math.MinInt}, {Len: math.MaxInt}, {Len: -1, Rtr: true}, {Len: 9, Rtr: true}, {Len: 9, Ext: true},
		{Data: [8]byte{1}}, {Len: 7, Data: [8]byte{7: 1}}, {Len: 1, Ext: true, Data: [8]byte{1, 1}},
		{Rtr: true, Len: 1, Data: [8]byte{1}}, {Ext: true, Rtr: true, Len: 8, Data: [8]byte{7: 128}},
	}
}

// noLevels are numbers that are no levels.
func noLevels() []int {
	return []int{-1, 2, 3, '0', '1', 256, 257, 1 << 32, 1<<32 + 1, math.MinInt, math.MaxInt}
}

// levels are those that a text names.
func levels(text string) []int {
	var m made
	m.put(Start, text)
	return m.l
}

// longer is a row with some others behind it, in memory of its own.
func longer(l []int, more ...int) []int {
	return append(slices.Clone(l), more...)
}

func TestFieldsAreInOrder(t *testing.T) {
	for i, kind := range []int{Start, Arb, Ctrl, Data, Sum, Delim, Slot, AckDelim, End, Done} {
		if kind != i {
			t.Errorf("the field %d is %d", i, kind)
		}
	}
}

// P4.1

func TestBits(t *testing.T) {
	for _, x := range []struct {
		f    api.Frame
		want string
	}{
		{api.Frame{ID: 1}, "0" + "0000000000100" + "00000"},
		{api.Frame{}, "0" + "0000000000000" + "00000"},
		{api.Frame{ID: 2047, Len: 8}, "0" + "1111111111100" + "01000" + fmt.Sprintf("%064b", 0)},
		{api.Frame{ID: 0x123, Len: 2, Data: [8]byte{0x11, 0xA2}}, "0" + "0010010001100" + "00010" + "00010001" + "10100010"},
		{api.Frame{ID: 0x123, Rtr: true}, "0" + "0010010001110" + "00000"},
		{api.Frame{ID: 0x123, Rtr: true, Len: 7}, "0" + "0010010001110" + "00111"},
		{api.Frame{ID: 0x123, Rtr: true, Len: 8}, "0" + "0010010001110" + "01000"},
		{api.Frame{Ext: true}, "0" + "00000000000110000000000000000000" + "000000"},
		{api.Frame{ID: 1<<18 | 5, Ext: true, Len: 1, Data: [8]byte{0x81}}, "0" + "00000000001110000000000000001010" + "000001" + "10000001"},
		{api.Frame{ID: 303, Ext: true, Rtr: true, Len: 4}, "0" + "00000000000110000000001001011111" + "000100"},
		{api.Frame{ID: 536870911, Ext: true, Rtr: true, Len: 8}, "0" + "11111111111111111111111111111111" + "001000"},
	} {
		if l, e := Bits(x.f); !slices.Equal(l, levels(x.want)) || e != api.OK {
			t.Errorf("Bits(%+v) = %v, %v, want %s", x.f, l, e, x.want)
		}
	}
}

func TestBitsAndAllOfEachFrame(t *testing.T) {
	for _, p := range plans() {
		m := build(p)
		if l, e := Bits(m.f); !slices.Equal(l, m.l[:m.ahead]) || e != api.OK {
			t.Fatalf("Bits(%+v) = %v, %v, want %v", m.f, l, e, m.l[:m.ahead])
		}
		if l, e := All(m.f); !slices.Equal(l, m.l) || e != api.OK {
			t.Fatalf("All(%+v) = %v, %v, want %v", m.f, l, e, m.l)
		}
	}
}

func TestBitsAndAllOfWrongFrames(t *testing.T) {
	for _, f := range wrongFrames() {
		if want := frame.Check(f); want != api.ErrFrame {
			t.Errorf("Check(%+v) = %v", f, want)
		}
		if l, e := Bits(f); l != nil || e != api.ErrFrame {
			t.Errorf("Bits(%+v) = %v, %v", f, l, e)
		}
		if l, e := All(f); l != nil || e != api.ErrFrame {
			t.Errorf("All(%+v) = %v, %v", f, l, e)
		}
	}
}

func TestExampleOfTheChapter(t *testing.T) {
	f := api.Frame{ID: 1}
	l, _ := Bits(f)
	if want := levels("0" + "0000000000" + "1" + "0000000"); len(l) != 19 || !slices.Equal(l, want) {
		t.Errorf("Bits = %v", l)
	}
	if kind, n, e := Next(l); kind != Sum || n != 0 || e != api.OK {
		t.Errorf("behind them comes %d, %d, %v", kind, n, e)
	}
	if all, _ := All(f); len(all) != 44 {
		t.Errorf("in all there are %d", len(all))
	}
}

// P4.2

func TestNextAtEachPlace(t *testing.T) {
	for _, m := range rows() {
		for i := range m.l {
			if kind, n, e := Next(m.l[:i]); kind != m.kind[i] || n != m.nth[i] || e != api.OK {
				t.Fatalf("Next(%v) = %d, %d, %v, want %d, %d", m.l[:i], kind, n, e, m.kind[i], m.nth[i])
			}
		}
		if kind, n, e := Next(m.l); kind != Done || n != 0 || e != api.OK {
			t.Fatalf("Next(%v) = %d, %d, %v, want Done", m.l, kind, n, e)
		}
	}
}

func TestNextAtTheEdgesOfFields(t *testing.T) {
	// How many levels l has, the field that comes, and which one of it.
	type edge struct{ has, kind, n int }
	for _, x := range []struct {
		row   made
		edges []edge
	}{
		{build(plan{id: 1}), []edge{
			{0, Start, 0}, {1, Arb, 0}, {2, Arb, 1}, {12, Arb, 11}, {13, Arb, 12}, {14, Ctrl, 0}, {15, Ctrl, 1}, {18, Ctrl, 4},
			{19, Sum, 0}, {20, Sum, 1}, {33, Sum, 14}, {34, Delim, 0}, {35, Slot, 0}, {36, AckDelim, 0}, {37, End, 0}, {38, End, 1}, {43, End, 6}, {44, Done, 0},
		}},
		{build(plan{id: 1, told: 1, data: []byte{7}}), []edge{
			{18, Ctrl, 4}, {19, Data, 0}, {20, Data, 1}, {26, Data, 7}, {27, Sum, 0}, {41, Sum, 14}, {42, Delim, 0}, {51, End, 6}, {52, Done, 0},
		}},
		{build(plan{id: 1, told: 8, data: pattern(8)}), []edge{
			{18, Ctrl, 4}, {19, Data, 0}, {27, Data, 8}, {82, Data, 63}, {83, Sum, 0}, {97, Sum, 14}, {98, Delim, 0}, {107, End, 6}, {108, Done, 0},
		}},
		{build(plan{id: 1, told: 15, data: pattern(8)}), []edge{{82, Data, 63}, {83, Sum, 0}, {107, End, 6}, {108, Done, 0}}},
		{build(plan{id: 1, told: 9, data: pattern(8)}), []edge{{82, Data, 63}, {83, Sum, 0}, {107, End, 6}, {108, Done, 0}}},
		{build(plan{id: 1, rtr: true, told: 8}), []edge{{13, Arb, 12}, {18, Ctrl, 4}, {19, Sum, 0}, {43, End, 6}, {44, Done, 0}}},
		{build(plan{id: 1, rtr: true, told: 15}), []edge{{18, Ctrl, 4}, {19, Sum, 0}, {43, End, 6}, {44, Done, 0}}},
		{build(plan{id: 1, ext: true, same: 1}), []edge{
			{0, Start, 0}, {1, Arb, 0}, {12, Arb, 11}, {13, Arb, 12}, {14, Arb, 13}, {15, Arb, 14}, {32, Arb, 31}, {33, Ctrl, 0}, {34, Ctrl, 1}, {38, Ctrl, 5},
			{39, Sum, 0}, {53, Sum, 14}, {54, Delim, 0}, {55, Slot, 0}, {56, AckDelim, 0}, {57, End, 0}, {63, End, 6}, {64, Done, 0},
		}},
		{build(plan{id: 1, ext: true, same: 1, told: 8, data: pattern(8)}), []edge{
			{38, Ctrl, 5}, {39, Data, 0}, {102, Data, 63}, {103, Sum, 0}, {117, Sum, 14}, {118, Delim, 0}, {127, End, 6}, {128, Done, 0},
		}},
		{build(plan{id: 1, ext: true, rtr: true, same: 1, told: 8}), []edge{{32, Arb, 31}, {33, Ctrl, 0}, {38, Ctrl, 5}, {39, Sum, 0}, {63, End, 6}, {64, Done, 0}}},
	} {
		for _, y := range x.edges {
			if kind, n, e := Next(x.row.l[:y.has]); kind != y.kind || n != y.n || e != api.OK {
				t.Errorf("%+v: behind %d levels comes %d, %d, %v, want %d, %d", x.row.f, y.has, kind, n, e, y.kind, y.n)
			}
		}
	}
	if kind, n, e := Next(nil); kind != Start || n != 0 || e != api.OK {
		t.Errorf("Next(nil) = %d, %d, %v", kind, n, e)
	}
}

func TestNextAsksNoLevelBehindCtrl(t *testing.T) {
	for _, m := range few() {
		for _, level := range []int{0, 1} {
			l := slices.Clone(m.l)
			for i := m.ctrl; i < len(l); i++ {
				l[i] = level
			}
			for i := range l {
				if kind, n, e := Next(l[:i]); kind != m.kind[i] || n != m.nth[i] || e != api.OK {
					t.Fatalf("Next(%v) = %d, %d, %v, want %d, %d", l[:i], kind, n, e, m.kind[i], m.nth[i])
				}
			}
			if kind, n, e := Next(l); kind != Done || n != 0 || e != api.OK {
				t.Fatalf("Next(%v) = %d, %d, %v, want Done", l, kind, n, e)
			}
		}
	}
}

func TestNextOfTooManyLevels(t *testing.T) {
	for _, m := range few() {
		for _, more := range [][]int{{0}, {1}, {0, 0}, {1, 1, 1}, make([]int, 64), slices.Repeat([]int{1}, 1000)} {
			if kind, n, e := Next(longer(m.l, more...)); kind != 0 || n != 0 || e != api.ErrLong {
				t.Errorf("%+v and %d more: %d, %d, %v", m.f, len(more), kind, n, e)
			}
		}
	}
}

func TestAhead(t *testing.T) {
	for _, m := range rows() {
		for i := range len(m.l) + 1 {
			n, e := Ahead(m.l[:i])
			if i < m.ctrl {
				if n != 0 || e != api.ErrShort {
					t.Fatalf("Ahead(%v) = %d, %v, want ErrShort", m.l[:i], n, e)
				}
			} else if n != m.ahead || e != api.OK {
				t.Fatalf("Ahead(%v) = %d, %v, want %d", m.l[:i], n, e, m.ahead)
			}
		}
	}
	if n, e := Ahead(nil); n != 0 || e != api.ErrShort {
		t.Errorf("Ahead(nil) = %d, %v", n, e)
	}
}

func TestAheadInNumbers(t *testing.T) {
	for told := range 16 {
		bytes := min(told, 8)
		for _, x := range []struct {
			p    plan
			want int
		}{
			{plan{told: told}, 19 + 8*bytes},
			{plan{told: told, rtr: true}, 19},
			{plan{told: told, ext: true}, 39 + 8*bytes},
			{plan{told: told, ext: true, same: 1}, 39 + 8*bytes},
			{plan{told: told, ext: true, rtr: true}, 39},
			{plan{told: told, ext: true, same: 1, rtr: true}, 39},
		} {
			m := build(x.p)
			if n, e := Ahead(m.l[:m.ctrl]); n != x.want || e != api.OK {
				t.Errorf("%+v: Ahead = %d, %v, want %d", x.p, n, e, x.want)
			}
		}
	}
}

// P4.2, P4.3: what is wrong

func TestNumbersThatAreNoLevels(t *testing.T) {
	for _, m := range few() {
		l := longer(m.l, 0, 1, 0) // behind the frame's, too
		for at := range l {
			for _, number := range noLevels() {
				whole := slices.Clone(l)
				whole[at] = number
				for _, has := range []int{at + 1, max(at+1, m.ctrl), max(at+1, m.ahead), max(at+1, len(m.l)), len(l)} {
					expectRange(t, whole[:has])
				}
			}
		}
	}
	for _, number := range noLevels() {
		expectRange(t, []int{number})
		expectRange(t, longer(make([]int, 1000), number))
	}
}

// expectRange asks all calls that take levels for ErrRange.
func expectRange(t *testing.T, l []int) {
	t.Helper()
	if kind, n, e := Next(l); kind != 0 || n != 0 || e != api.ErrRange {
		t.Fatalf("Next(%v) = %d, %d, %v", l, kind, n, e)
	}
	if n, e := Ahead(l); n != 0 || e != api.ErrRange {
		t.Fatalf("Ahead(%v) = %d, %v", l, n, e)
	}
	if f, e := Frame(l); f != (api.Frame{}) || e != api.ErrRange {
		t.Fatalf("Frame(%v) = %+v, %v", l, f, e)
	}
	if right, e := Right(l); right || e != api.ErrRange {
		t.Fatalf("Right(%v) = %v, %v", l, right, e)
	}
}

func TestNumbersBehindTheLengthAreNotAsked(t *testing.T) {
	for _, m := range few() {
		l := longer(m.l, 7)
		for at := range l {
			whole := slices.Clone(l)
			for i := at; i < len(whole); i++ {
				whole[i] = 7
			}
			if _, _, e := Next(whole[:at]); e != api.OK {
				t.Fatalf("Next(%v) = %v", whole[:at], e)
			}
		}
	}
}

// P4.3

func TestFrameAtEachLength(t *testing.T) {
	for _, m := range rows() {
		for i := range len(m.l) + 1 {
			f, e := Frame(m.l[:i])
			want, wantError := m.f, api.OK
			if i < m.ahead {
				want, wantError = api.Frame{}, api.ErrShort
			} else if m.l[0] == 1 {
				want, wantError = api.Frame{}, api.ErrForm
			}
			if f != want || e != wantError {
				t.Fatalf("Frame(%v) = %+v, %v, want %+v, %v", m.l[:i], f, e, want, wantError)
			}
		}
	}
	if f, e := Frame(nil); f != (api.Frame{}) || e != api.ErrShort {
		t.Errorf("Frame(nil) = %+v, %v", f, e)
	}
}

func TestFrameOfTexts(t *testing.T) {
	for _, x := range []struct {
		text string
		f    api.Frame
		e    api.Errno
	}{
		{"0" + "0000000000100" + "00000", api.Frame{ID: 1}, api.OK},
		{"0" + "1000000000000" + "00000", api.Frame{ID: 1024}, api.OK},
		{"0" + "0010010001100" + "00010" + "0001000110100010", api.Frame{ID: 0x123, Len: 2, Data: [8]byte{0x11, 0xA2}}, api.OK},
		{"0" + "0010010001100" + "00010" + "000100011010001", api.Frame{}, api.ErrShort},
		{"0" + "0010010001110" + "00010", api.Frame{ID: 0x123, Rtr: true, Len: 2}, api.OK},
		{"0" + "0010010001110" + "0001", api.Frame{}, api.ErrShort},
		{"1" + "0010010001110" + "0001", api.Frame{}, api.ErrShort}, // it is named ahead of ErrForm
		{"1" + "0010010001110" + "00010", api.Frame{}, api.ErrForm},
		{"0" + "0010010001110" + "11111", api.Frame{ID: 0x123, Rtr: true, Len: 8}, api.OK},
		{"0" + "0010010001100" + "10000", api.Frame{ID: 0x123}, api.OK},
		{"0" + "00000000001110000000000000001010" + "000001" + "10000001", api.Frame{ID: 1<<18 | 5, Ext: true, Len: 1, Data: [8]byte{0x81}}, api.OK},
		{"0" + "00000000001010000000000000001010" + "110001" + "10000001", api.Frame{ID: 1<<18 | 5, Ext: true, Len: 1, Data: [8]byte{0x81}}, api.OK},
		{"0" + "00000000001010000000000000001011" + "011001", api.Frame{ID: 1<<18 | 5, Ext: true, Rtr: true, Len: 8}, api.OK},
		{"0" + "11111111111111111111111111111111" + "111000", api.Frame{ID: 536870911, Ext: true, Rtr: true, Len: 8}, api.OK},
		{"1" + "11111111111111111111111111111111" + "111000", api.Frame{}, api.ErrForm},
		{"1" + "11111111111111111111111111111111" + "11100", api.Frame{}, api.ErrShort},
	} {
		if f, e := Frame(levels(x.text)); f != x.f || e != x.e {
			t.Errorf("Frame(%s) = %+v, %v, want %+v, %v", x.text, f, e, x.f, x.e)
		}
	}
}

func TestRightAtEachLength(t *testing.T) {
	for _, m := range rows() {
		for i := range len(m.l) + 1 {
			right, e := Right(m.l[:i])
			if i < m.ahead+15 {
				if right || e != api.ErrShort {
					t.Fatalf("Right(%v) = %v, %v, want ErrShort", m.l[:i], right, e)
				}
			} else if !right || e != api.OK {
				t.Fatalf("Right(%v) = %v, %v, want true", m.l[:i], right, e)
			}
		}
	}
	if right, e := Right(nil); right || e != api.ErrShort {
		t.Errorf("Right(nil) = %v, %v", right, e)
	}
}

func TestRightOfOneLevelTurned(t *testing.T) {
	for _, m := range rows() {
		for at := range m.l {
			l := slices.Clone(m.l)
			l[at] = 1 - l[at]
			if kind := m.kind[at]; kind == Arb || kind == Ctrl {
				continue // this may turn the fields themselves
			}
			if right, e := Right(l); right != (at >= m.ahead+15) || e != api.OK {
				t.Fatalf("Right(%v) = %v, %v: turned at %d", l, right, e, at)
			}
		}
	}
}

func TestRightHasOneSumAlone(t *testing.T) {
	for _, m := range []made{build(plan{id: 1}), build(plan{id: 1, ext: true, same: 1, told: 1, data: []byte{0xA5}})} {
		n := 0
		l := slices.Clone(m.l[:m.ahead+15])
		for sum := range 1 << 15 {
			for i := range 15 {
				l[m.ahead+i] = sum >> (14 - i) & 1
			}
			right, e := Right(l)
			if e != api.OK {
				t.Fatalf("Right(%v) = %v", l, e)
			}
			if right {
				n++
			}
		}
		if n != 1 {
			t.Errorf("%+v: %d sums are right", m.f, n)
		}
	}
}

// P4.4

func TestFrameOfItsOwnLevels(t *testing.T) {
	for _, p := range plans() {
		f := build(p).f
		part, _ := Bits(f)
		all, _ := All(f)
		for _, l := range [][]int{part, all} {
			if again, e := Frame(l); again != f || e != api.OK {
				t.Fatalf("Frame(%v) = %+v, %v, want %+v", l, again, e, f)
			}
			if n, e := Ahead(l); n != len(part) || e != api.OK {
				t.Fatalf("Ahead(%v) = %d, %v, want %d", l, n, e, len(part))
			}
		}
		if right, e := Right(all); !right || e != api.OK {
			t.Fatalf("Right(%v) = %v, %v", all, right, e)
		}
	}
}

func TestLevelsAreInOrderOfTheirFields(t *testing.T) {
	for _, p := range plans() {
		all, _ := All(build(p).f)
		kind, n, _ := Next(nil)
		if kind != Start || n != 0 {
			t.Fatalf("first comes %d, %d", kind, n)
		}
		for i := range all {
			nextKind, nextN, e := Next(all[:i+1])
			goesOn := nextKind == kind && nextN == n+1
			begins := nextKind > kind && nextN == 0
			if e != api.OK || !goesOn && !begins {
				t.Fatalf("behind %d, %d of %v comes %d, %d, %v", kind, n, all, nextKind, nextN, e)
			}
			kind, n = nextKind, nextN
		}
		if kind != Done {
			t.Fatalf("%v ends in %d", all, kind)
		}
	}
}

func TestWhatStandsBehindTurnsNothing(t *testing.T) {
	for _, m := range few() {
		for _, more := range [][]int{{0}, {1}, {0, 1, 0}, make([]int, 100), slices.Repeat([]int{1}, 100), m.l} {
			for _, from := range []int{m.ahead, m.ahead + 15, len(m.l)} {
				l := longer(m.l[:from], more...)
				if n, e := Ahead(l); n != m.ahead || e != api.OK {
					t.Errorf("Ahead(%v) = %d, %v, want %d", l, n, e, m.ahead)
				}
				if f, e := Frame(l); f != m.f || e != api.OK {
					t.Errorf("Frame(%v) = %+v, %v, want %+v", l, f, e, m.f)
				}
				if right, e := Right(l); from > m.ahead && (!right || e != api.OK) {
					t.Errorf("Right(%v) = %v, %v", l, right, e)
				}
			}
		}
	}
}

func TestFrameOfMoreBytesThanThereMayBe(t *testing.T) {
	data := pattern(8)
	for told := 9; told < 16; told++ {
		for _, ext := range []bool{false, true} {
			m := build(plan{id: 5, ext: ext, told: told, data: data})
			if f, e := Frame(m.l); f.Len != 8 || f.Data != [8]byte(data) || e != api.OK || frame.Check(f) != api.OK {
				t.Errorf("%d told: %+v, %v", told, f, e)
			}
			m = build(plan{id: 5, ext: ext, rtr: true, told: told})
			if f, e := Frame(m.l); f.Len != 8 || f.Data != [8]byte{} || e != api.OK || frame.Check(f) != api.OK {
				t.Errorf("%d told, remote: %+v, %v", told, f, e)
			}
		}
	}
}

// R1, R2, R3

// TestAnyLevels asks for answers that agree with each other, of rows that are made without a plan.
func TestAnyLevels(t *testing.T) {
	seed := uint32(1)
	for range 20000 {
		l := make([]int, 0, 150)
		seed = seed*1664525 + 1013904223
		for range seed >> 8 % 150 {
			seed = seed*1664525 + 1013904223
			l = append(l, int(seed>>31))
		}
		kind, n, next := Next(l)
		ahead, e := Ahead(l)
		f, fe := Frame(l)
		right, re := Right(l)
		early := next == api.OK && kind < Data
		if early != (e == api.ErrShort) || e == api.ErrShort && (ahead != 0 || fe != e || re != e || right || f != api.Frame{}) {
			t.Fatalf("%v: Next %d, %d, %v, Ahead %d, %v, Frame %+v, %v, Right %v, %v", l, kind, n, next, ahead, e, f, fe, right, re)
		}
		if early {
			continue
		}
		if (len(l) < ahead) != (next == api.OK && kind == Data) || (len(l) > ahead+25) != (next == api.ErrLong) {
			t.Fatalf("%v: Next %d, %d, %v, Ahead %d", l, kind, n, next, ahead)
		}
		if (len(l) < ahead+15) != (re == api.ErrShort) || (fe == api.OK) != (len(l) >= ahead && l[0] == 0) {
			t.Fatalf("%v: Frame %+v, %v, Right %v, %v", l, f, fe, right, re)
		}
		if fe == api.OK && frame.Check(f) != api.OK {
			t.Fatalf("%v: Frame %+v", l, f)
		}
	}
}

func TestLevelsAreLeftAsTheyAre(t *testing.T) {
	for _, m := range few() {
		whole := longer(m.l, 77, 78)
		before := slices.Clone(whole)
		for i := range len(m.l) + 1 {
			l := whole[:i]
			Next(l)
			Ahead(l)
			Frame(l)
			Right(l)
		}
		if !slices.Equal(whole, before) {
			t.Fatalf("%v has become %v", before, whole)
		}
	}
}

func TestAnswersShareNothing(t *testing.T) {
	for _, ask := range []func(api.Frame) ([]int, api.Errno){Bits, All} {
		for _, m := range few() {
			first, _ := ask(m.f)
			want := slices.Clone(first)
			second, _ := ask(m.f)
			for i := range first[:cap(first)] {
				first[:cap(first)][i] = 9
			}
			third, _ := ask(m.f)
			if !slices.Equal(second, want) || !slices.Equal(third, want) {
				t.Fatalf("%+v: %v, %v, want %v", m.f, second, third, want)
			}
		}
	}
}
