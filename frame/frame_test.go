package frame

import (
	"fmt"
	"math"
	"slices"
	"strings"
	"testing"

	"magneto/api"
	"magneto/bits"
)

// mayBe tells whether a frame may be, in the document's own words, apart from the program.
func mayBe(f api.Frame) bool {
	greatest := 2047
	if f.Ext {
		greatest = 536870911
	}
	if f.ID < 0 || f.ID > greatest || f.Len < 0 || f.Len > 8 {
		return false
	}
	for i, b := range f.Data {
		if b != 0 && (f.Rtr || i >= f.Len) {
			return false
		}
	}
	return true
}

// arbitration are the levels of arbitration as a text, in the document's own words.
func arbitration(f api.Frame) string {
	remote := 0
	if f.Rtr {
		remote = 1
	}
	if !f.Ext {
		return fmt.Sprintf("%011b%d0", f.ID, remote)
	}
	return fmt.Sprintf("%011b11%018b%d", f.ID/262144, f.ID%262144, remote)
}

// spelt is the text of a frame, in the document's own words.
func spelt(f api.Frame) string {
	id := fmt.Sprintf("%03X", f.ID)
	if f.Ext {
		id = fmt.Sprintf("%08X", f.ID)
	}
	if f.Rtr {
		return fmt.Sprintf("%s#R%d", id, f.Len)
	}
	return fmt.Sprintf("%s#%X", id, f.Data[:f.Len])
}

// ids are IDs at which something may change, of both kinds.
func ids() []int {
	l := []int{
		math.MinInt, -536870912, -2048, -1, 0, 1, 2, 291, 1023, 1024, 2046, 2047, 2048, 2049,
		262143, 262144, 262145, 524288, 536608768, 536870910, 536870911, 536870912, 1 << 30, 1 << 31, 1 << 32, math.MaxInt,
	}
	for i := range 29 {
		l = append(l, 1<<i+5<<7)
	}
	return l
}

// rows are bytes of all lengths, without a pattern that is its own mirror.
func rows() [][]byte {
	l := [][]byte{nil}
	for n := range 8 {
		row := make([]byte, n+1)
		for i := range row {
			row[i] = byte(0xF1*(i+1) + n)
		}
		l = append(l, row, make([]byte, n+1), []byte(strings.Repeat("\xFF", n+1)))
	}
	return l
}

// frames are all kinds of frames that may be.
func frames() []api.Frame {
	var l []api.Frame
	for _, id := range ids() {
		for _, ext := range []bool{false, true} {
			for _, row := range rows() {
				f := api.Frame{ID: id, Ext: ext, Len: len(row)}
				copy(f.Data[:], row)
				l = append(l, f)
			}
			for n := range 9 {
				l = append(l, api.Frame{ID: id, Ext: ext, Rtr: true, Len: n})
			}
		}
	}
	return slices.DeleteFunc(l, func(f api.Frame) bool { return !mayBe(f) })
}

// wrong are frames that may not be.
func wrong() []api.Frame {
	l := []api.Frame{
		{ID: -1}, {ID: -1, Ext: true}, {ID: -1, Rtr: true}, {ID: math.MinInt}, {ID: math.MinInt, Ext: true},
		{ID: 2048}, {ID: 2048, Rtr: true}, {ID: 536870911}, {ID: math.MaxInt},
		{ID: 536870912, Ext: true}, {ID: 536870912, Ext: true, Rtr: true}, {ID: 1 << 32, Ext: true}, {ID: 1 << 32}, {ID: math.MaxInt, Ext: true},
		{Len: -1}, {Len: 9}, {Len: -1, Rtr: true}, {Len: 9, Rtr: true}, {Len: -1, Ext: true}, {Len: 9, Ext: true},
		{Len: math.MinInt}, {Len: math.MaxInt}, {Len: math.MinInt, Rtr: true}, {Len: 1 << 32}, {Len: 256},
		{Len: 9, Data: [8]byte{1, 2, 3, 4, 5, 6, 7, 8}}, {Len: -1, Data: [8]byte{1}},
		{ID: -1, Len: 9, Rtr: true, Data: [8]byte{1}},
	}
	for n := range 8 {
		for at := range 8 {
			var data [8]byte
			data[at] = 0x80 >> at
			l = append(l, api.Frame{ID: 5, Rtr: true, Len: n + 1, Data: data}, api.Frame{ID: 5, Ext: true, Rtr: true, Data: data})
			if at >= n {
				l = append(l, api.Frame{ID: 5, Len: n, Data: data}, api.Frame{ID: 5, Ext: true, Len: n, Data: data})
			}
		}
	}
	return l
}

// P3.1

func TestCheck(t *testing.T) {
	for _, x := range []struct {
		f api.Frame
		e api.Errno
	}{
		{api.Frame{}, api.OK},
		{api.Frame{ID: 2047}, api.OK},
		{api.Frame{ID: 2048}, api.ErrFrame},
		{api.Frame{ID: -1}, api.ErrFrame},
		{api.Frame{Ext: true}, api.OK},
		{api.Frame{ID: 2047, Ext: true}, api.OK},
		{api.Frame{ID: 2048, Ext: true}, api.OK},
		{api.Frame{ID: 536870911, Ext: true}, api.OK},
		{api.Frame{ID: 536870911}, api.ErrFrame},
		{api.Frame{ID: 536870912, Ext: true}, api.ErrFrame},
		{api.Frame{ID: -1, Ext: true}, api.ErrFrame},
		{api.Frame{Len: 0}, api.OK},
		{api.Frame{Len: 8}, api.OK},
		{api.Frame{Len: 9}, api.ErrFrame},
		{api.Frame{Len: -1}, api.ErrFrame},
		{api.Frame{Len: 8, Data: [8]byte{1, 2, 3, 4, 5, 6, 7, 8}}, api.OK},
		{api.Frame{Len: 7, Data: [8]byte{1, 2, 3, 4, 5, 6, 7}}, api.OK},
		{api.Frame{Len: 7, Data: [8]byte{1, 2, 3, 4, 5, 6, 7, 8}}, api.ErrFrame},
		{api.Frame{Len: 0, Data: [8]byte{1}}, api.ErrFrame},
		{api.Frame{Len: 1, Data: [8]byte{1}}, api.OK},
		{api.Frame{Len: 1, Data: [8]byte{1, 0, 0, 0, 0, 0, 0, 1}}, api.ErrFrame},
		{api.Frame{Rtr: true}, api.OK},
		{api.Frame{Rtr: true, Len: 8}, api.OK},
		{api.Frame{Rtr: true, Len: 9}, api.ErrFrame},
		{api.Frame{Rtr: true, Len: -1}, api.ErrFrame},
		{api.Frame{Rtr: true, Len: 1, Data: [8]byte{1}}, api.ErrFrame},
		{api.Frame{Rtr: true, Len: 8, Data: [8]byte{0, 0, 0, 0, 0, 0, 0, 1}}, api.ErrFrame},
	} {
		if e := Check(x.f); e != x.e {
			t.Errorf("Check(%+v) = %v, want %v", x.f, e, x.e)
		}
	}
}

func TestCheckOfAll(t *testing.T) {
	for _, f := range frames() {
		if e := Check(f); e != api.OK {
			t.Errorf("Check(%+v) = %v", f, e)
		}
	}
	for _, f := range wrong() {
		if e := Check(f); e != api.ErrFrame {
			t.Errorf("Check(%+v) = %v", f, e)
		}
	}
	for _, id := range ids() {
		for _, f := range []api.Frame{{ID: id}, {ID: id, Ext: true}, {ID: id, Rtr: true}, {ID: id, Ext: true, Rtr: true}} {
			if e := Check(f); (e == api.OK) != mayBe(f) || e != api.OK && e != api.ErrFrame {
				t.Errorf("Check(%+v) = %v", f, e)
			}
		}
	}
}

func TestArb(t *testing.T) {
	for _, x := range []struct {
		f    api.Frame
		want string
	}{
		{api.Frame{}, "0000000000000"},
		{api.Frame{Rtr: true}, "0000000000010"},
		{api.Frame{ID: 1}, "0000000000100"},
		{api.Frame{ID: 291, Len: 2, Data: [8]byte{0x11, 0xA2}}, "0010010001100"},
		{api.Frame{ID: 1024, Rtr: true, Len: 8}, "1000000000010"},
		{api.Frame{ID: 2047}, "1111111111100"},
		{api.Frame{ID: 2047, Rtr: true}, "1111111111110"},
		{api.Frame{Ext: true}, "00000000000110000000000000000000"},
		{api.Frame{Ext: true, Rtr: true}, "00000000000110000000000000000001"},
		{api.Frame{ID: 1, Ext: true}, "00000000000110000000000000000010"},
		{api.Frame{ID: 2047, Ext: true}, "00000000000110000000111111111110"},
		{api.Frame{ID: 2048, Ext: true}, "00000000000110000001000000000000"},
		{api.Frame{ID: 262143, Ext: true}, "00000000000111111111111111111110"},
		{api.Frame{ID: 262144, Ext: true}, "00000000001110000000000000000000"},
		{api.Frame{ID: 303, Ext: true, Rtr: true, Len: 4}, "00000000000110000000001001011111"},
		{api.Frame{ID: 268435456, Ext: true}, "10000000000110000000000000000000"},
		{api.Frame{ID: 536870911, Ext: true, Rtr: true}, "11111111111111111111111111111111"},
	} {
		l, e := Arb(x.f)
		if got, _, _ := bits.Text(l); got != x.want || e != api.OK {
			t.Errorf("Arb(%+v) = %s, %v, want %s", x.f, got, e, x.want)
		}
	}
}

func TestArbOfAll(t *testing.T) {
	for _, f := range frames() {
		l, e := Arb(f)
		if got, _, g := bits.Text(l); got != arbitration(f) || e != api.OK || g != api.OK {
			t.Fatalf("Arb(%+v) = %v, %v, want %s", f, l, e, arbitration(f))
		}
	}
	for id := range 2048 {
		l, _ := Arb(api.Frame{ID: id})
		if got, _, _ := bits.Text(l); got != arbitration(api.Frame{ID: id}) {
			t.Fatalf("Arb of %d = %v", id, l)
		}
	}
	for _, f := range wrong() {
		if l, e := Arb(f); len(l) != 0 || e != api.ErrFrame {
			t.Errorf("Arb(%+v) = %v, %v", f, l, e)
		}
	}
}

// P3.2

func TestLessAndRival(t *testing.T) {
	// From the first one to the last one, each ahead of the next.
	order := []api.Frame{
		{},
		{Rtr: true},
		{Ext: true},
		{Ext: true, Rtr: true},
		{ID: 1, Ext: true},
		{ID: 2047, Ext: true},
		{ID: 2048, Ext: true},
		{ID: 262143, Ext: true, Rtr: true},
		{ID: 1},
		{ID: 1, Rtr: true},
		{ID: 262144, Ext: true},
		{ID: 262144, Ext: true, Rtr: true},
		{ID: 262145, Ext: true},
		{ID: 291, Len: 2, Data: [8]byte{0x11, 0xA2}},
		{ID: 291, Rtr: true},
		{ID: 2046, Rtr: true},
		{ID: 536608767, Ext: true, Rtr: true},
		{ID: 2047},
		{ID: 2047, Rtr: true},
		{ID: 536608768, Ext: true},
		{ID: 536870911, Ext: true},
		{ID: 536870911, Ext: true, Rtr: true},
	}
	for i, a := range order {
		for k, b := range order {
			if Less(a, b) != (i < k) || Rival(a, b) != (i == k) {
				t.Errorf("%+v, %+v: Less %v, Rival %v", a, b, Less(a, b), Rival(a, b))
			}
		}
	}
}

func TestLessAndRivalOfAll(t *testing.T) {
	all := frames()
	for i := 0; i < len(all); i += 3 {
		a := arbitration(all[i])
		for k := 0; k < len(all); k += 5 {
			b := arbitration(all[k])
			at := 0
			for a != b && a[at] == b[at] {
				at++
			}
			if Less(all[i], all[k]) != (a != b && a[at] == '0') || Rival(all[i], all[k]) != (a == b) {
				t.Fatalf("%+v, %+v: Less %v, Rival %v", all[i], all[k], Less(all[i], all[k]), Rival(all[i], all[k]))
			}
		}
	}
}

func TestWhatIsCarriedGivesNoOrder(t *testing.T) {
	for _, ext := range []bool{false, true} {
		a, b := api.Frame{ID: 7, Ext: ext}, api.Frame{ID: 7, Ext: ext, Len: 8, Data: [8]byte{255, 1}}
		if Less(a, b) || Less(b, a) || !Rival(a, b) || !Rival(b, a) {
			t.Errorf("%+v, %+v", a, b)
		}
		a, b = api.Frame{ID: 7, Ext: ext, Rtr: true}, api.Frame{ID: 7, Ext: ext, Rtr: true, Len: 8}
		if Less(a, b) || Less(b, a) || !Rival(a, b) || !Rival(b, a) {
			t.Errorf("%+v, %+v", a, b)
		}
	}
}

func TestFramesThatMayNotBeHaveNoOrder(t *testing.T) {
	right := []api.Frame{{}, {ID: 2047, Rtr: true}, {Ext: true}, {ID: 536870911, Ext: true, Rtr: true}}
	for _, a := range wrong() {
		for _, b := range append(right, wrong()...) {
			if Less(a, b) || Less(b, a) || Rival(a, b) || Rival(b, a) {
				t.Errorf("%+v, %+v", a, b)
			}
		}
	}
}

// P3.3

func TestTextAndParse(t *testing.T) {
	for _, x := range []struct {
		s string
		f api.Frame
	}{
		{"123#11A2", api.Frame{ID: 291, Len: 2, Data: [8]byte{0x11, 0xA2}}},
		{"0000012F#R4", api.Frame{ID: 303, Ext: true, Rtr: true, Len: 4}},
		{"000#", api.Frame{}},
		{"7FF#", api.Frame{ID: 2047}},
		{"000#R0", api.Frame{Rtr: true}},
		{"7FF#R8", api.Frame{ID: 2047, Rtr: true, Len: 8}},
		{"001#00", api.Frame{ID: 1, Len: 1}},
		{"001#0000000000000000", api.Frame{ID: 1, Len: 8}},
		{"0AB#0123456789ABCDEF", api.Frame{ID: 0xAB, Len: 8, Data: [8]byte{0x01, 0x23, 0x45, 0x67, 0x89, 0xAB, 0xCD, 0xEF}}},
		{"00000000#", api.Frame{Ext: true}},
		{"00000000#R0", api.Frame{Ext: true, Rtr: true}},
		{"000007FF#", api.Frame{ID: 2047, Ext: true}},
		{"00000800#", api.Frame{ID: 2048, Ext: true}},
		{"1FFFFFFF#FF", api.Frame{ID: 536870911, Ext: true, Len: 1, Data: [8]byte{255}}},
		{"1FFFFFFF#R8", api.Frame{ID: 536870911, Ext: true, Rtr: true, Len: 8}},
		{"1234ABCD#0102030405060708", api.Frame{ID: 0x1234ABCD, Ext: true, Len: 8, Data: [8]byte{1, 2, 3, 4, 5, 6, 7, 8}}},
	} {
		if s, e := Text(x.f); s != x.s || e != api.OK {
			t.Errorf("Text(%+v) = %q, %v, want %q", x.f, s, e, x.s)
		}
		if f, e := Parse(x.s); f != x.f || e != api.OK {
			t.Errorf("Parse(%q) = %+v, %v, want %+v", x.s, f, e, x.f)
		}
	}
}

func TestTextOfWrongFrames(t *testing.T) {
	for _, f := range wrong() {
		if s, e := Text(f); s != "" || e != api.ErrFrame {
			t.Errorf("Text(%+v) = %q, %v", f, s, e)
		}
	}
}

func TestParseOfWrongTexts(t *testing.T) {
	for _, x := range []struct {
		e     api.Errno
		texts []string
	}{
		{api.ErrForm, []string{
			"", "#", "1", "123", "12345678", "#11", "#R1", "R1", "123R1", "12311A2", // no ID, or no mark
			"1#", "12#", "1234#", "12345#", "123456#", "1234567#", "123456789#", "0000000000000123#", // not 3 or 8
			"12a#", "abc#", "12G#", "12-#", "-12#", "+12#", " 12#", "1 2#", "0x1#", "12R#", "1_2#", "12\x00#", "12/#", "12:#", "12@#",
			"0000012f#", "1fffffff#", "1234567G#", "+2345678#", "1234_678#",
			"123#1", "123#111", "123#1122334455667", "123#112233445566778", // half a pair
			"123#112233445566778899", "123#11223344556677889", "123#" + strings.Repeat("00", 9), "123#" + strings.Repeat("0", 1000), // nine pairs, and more
			"123#ab", "123#1a", "123#a1", "123#11a2", "123#1G", "123#G1", "123#1 ", "123# 1", "123#-1", "123#+1", "123#0x", "123#112233445566778g",
			"123#R", "123#R10", "123#R08", "123#R00", "123#RR", "123#Ra", "123#RG", "123#R-", "123#R ", "123#R#", "123#R-1", "123#R123456789",
			"123#r1", "123#r", "123#1R", "123#11R1", "123#1R1", "123#R1#", "123# R1", "123#R1 ", "123#R" + strings.Repeat("F", 1000),
			"123##", "123##11", "123#11#", "123#11#11", "##", "###", "123#11 ", " 123#11", "123#11\n", "123 #11",
			"123#\u0661\u0662", "\u0661#", "1\u0661#", "12\uFF13#", "123\uFF03", "\xFF\xFF\xFF#", "123#\xFF\xFF",
			// What is written wrong is told ahead of what may not be.
			"800#1", "FFF#R", "FFF#R10", "20000000#123", "FFFFFFFF#gg", "800#112233445566778899",
		}},
		{api.ErrFrame, []string{
			"923#", "800#", "FFF#", "FFF#11", "800#R1", "800#R9",
			"20000000#", "20000000#R0", "FFFFFFFF#", "80000000#", "FFFFFFFF#1122334455667788", "FFFFFFFF#RF",
			"123#R9", "123#RA", "123#RF", "0000012F#R9", "0000012F#RC",
		}},
	} {
		for _, s := range x.texts {
			if f, e := Parse(s); f != (api.Frame{}) || e != x.e {
				t.Errorf("Parse(%q) = %+v, %v, want %v", s, f, e, x.e)
			}
		}
	}
}

func TestParseOfEachByteAtEachPlace(t *testing.T) {
	for _, s := range []string{"123#11A2", "1234567F#R4", "000#", "123#R1", "00000000#00"} {
		for at := range len(s) {
			for b := range 256 {
				changed := s[:at] + string([]byte{byte(b)}) + s[at+1:]
				f, e := Parse(changed)
				if again, _ := Text(f); (e == api.OK) != (again == changed) || e == api.OK && !mayBe(f) {
					t.Errorf("Parse(%q) = %+v, %v", changed, f, e)
				}
				if e != api.OK && f != (api.Frame{}) {
					t.Errorf("Parse(%q) answers %+v beside %v", changed, f, e)
				}
			}
		}
	}
}

// P3.4

func TestOf(t *testing.T) {
	for _, x := range []struct {
		id   int
		ext  bool
		data []byte
		want api.Frame
		e    api.Errno
	}{
		{0, false, nil, api.Frame{}, api.OK},
		{0, true, nil, api.Frame{Ext: true}, api.OK},
		{291, false, []byte{0x11, 0xA2}, api.Frame{ID: 291, Len: 2, Data: [8]byte{0x11, 0xA2}}, api.OK},
		{2047, false, []byte{0}, api.Frame{ID: 2047, Len: 1}, api.OK},
		{2047, true, []byte{1, 0}, api.Frame{ID: 2047, Ext: true, Len: 2, Data: [8]byte{1}}, api.OK},
		{2048, true, []byte{}, api.Frame{ID: 2048, Ext: true}, api.OK},
		{536870911, true, []byte{1, 2, 3, 4, 5, 6, 7, 8}, api.Frame{ID: 536870911, Ext: true, Len: 8, Data: [8]byte{1, 2, 3, 4, 5, 6, 7, 8}}, api.OK},
		{5, false, []byte{1, 2, 3, 4, 5, 6, 7, 8}, api.Frame{ID: 5, Len: 8, Data: [8]byte{1, 2, 3, 4, 5, 6, 7, 8}}, api.OK},
		{5, false, []byte{1, 2, 3, 4, 5, 6, 7, 8, 9}, api.Frame{}, api.ErrLong},
		{5, true, make([]byte, 9), api.Frame{}, api.ErrLong},
		{5, true, make([]byte, 264), api.Frame{}, api.ErrLong},
		{-1, false, make([]byte, 9), api.Frame{}, api.ErrLong},
		{2048, false, make([]byte, 9), api.Frame{}, api.ErrLong},
		{536870912, true, make([]byte, 9), api.Frame{}, api.ErrLong},
		{-1, false, nil, api.Frame{}, api.ErrFrame},
		{-1, true, []byte{1}, api.Frame{}, api.ErrFrame},
		{2048, false, []byte{1, 2, 3, 4, 5, 6, 7, 8}, api.Frame{}, api.ErrFrame},
		{536870911, false, nil, api.Frame{}, api.ErrFrame},
		{536870912, true, nil, api.Frame{}, api.ErrFrame},
		{math.MinInt, true, nil, api.Frame{}, api.ErrFrame},
		{math.MaxInt, true, nil, api.Frame{}, api.ErrFrame},
		{1 << 32, false, nil, api.Frame{}, api.ErrFrame},
	} {
		if f, e := Of(x.id, x.ext, x.data...); f != x.want || e != x.e {
			t.Errorf("Of(%d, %v, %v) = %+v, %v, want %+v, %v", x.id, x.ext, x.data, f, e, x.want, x.e)
		}
	}
	if f, e := Of(5, true, 1, 2); f != (api.Frame{ID: 5, Ext: true, Len: 2, Data: [8]byte{1, 2}}) || e != api.OK {
		t.Errorf("Of(5, true, 1, 2) = %+v, %v", f, e)
	}
}

// P3.5

func TestTextsAndFramesAreOneToOne(t *testing.T) {
	of := map[string]api.Frame{}
	for _, f := range frames() {
		s, e := Text(f)
		if s != spelt(f) || e != api.OK {
			t.Fatalf("Text(%+v) = %q, %v, want %q", f, s, e, spelt(f))
		}
		if other, told := of[s]; told && other != f {
			t.Fatalf("%+v and %+v are both %q", other, f, s)
		}
		of[s] = f
		if again, e := Parse(s); again != f || e != api.OK {
			t.Fatalf("Parse(%q) = %+v, %v, want %+v", s, again, e, f)
		}
	}
}

func TestOrderHangsOnIdentifiers(t *testing.T) {
	all := frames()
	for i := 0; i < len(all); i += 7 {
		for k := 0; k < len(all); k += 4 {
			a, b := all[i], all[k]
			if a.Ext == b.Ext && a.ID < b.ID && !Less(a, b) {
				t.Fatalf("%+v has the lesser ID of %+v", a, b)
			}
			if a.Ext == b.Ext && a.ID == b.ID && !a.Rtr && b.Rtr && !Less(a, b) {
				t.Fatalf("%+v is of data, %+v remote", a, b)
			}
			if !a.Ext && b.Ext && Less(a, b) != (a.ID <= b.ID/262144) {
				t.Fatalf("%+v is short, %+v long", a, b)
			}
			if n := count(Less(a, b), Less(b, a), Rival(a, b)); n != 1 {
				t.Fatalf("%+v, %+v: %d of ahead, behind and alike", a, b, n)
			}
		}
	}
}

// count is how many of these hold.
func count(l ...bool) int {
	n := 0
	for _, b := range l {
		if b {
			n++
		}
	}
	return n
}

// R2, R3

func TestBytesAreLeftAsTheyAre(t *testing.T) {
	whole := []byte{1, 2, 3, 77, 78, 79, 80, 81, 82, 83}
	before := slices.Clone(whole)
	for n := range len(whole) {
		Of(5, false, whole[:n]...)
		Of(-1, false, whole[:n]...)
	}
	if !slices.Equal(whole, before) {
		t.Errorf("%v has become %v", before, whole)
	}
	f, _ := Of(5, false, whole[:3]...)
	whole[0] = 99
	if f != (api.Frame{ID: 5, Len: 3, Data: [8]byte{1, 2, 3}}) {
		t.Errorf("the frame has become %+v", f)
	}
}

func TestAnswersShareNothing(t *testing.T) {
	for _, f := range []api.Frame{{ID: 291}, {ID: 291, Ext: true}} {
		first, _ := Arb(f)
		second, _ := Arb(f)
		for i := range first {
			first[i] = 9
		}
		first = append(first, 9)
		third, _ := Arb(f)
		for _, l := range [][]int{second, third} {
			if s, _, _ := bits.Text(l); s != arbitration(f) {
				t.Errorf("%v behind %v", l, first)
			}
		}
	}
}
