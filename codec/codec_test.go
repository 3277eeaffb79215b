package codec

import (
	"fmt"
	"math"
	"slices"
	"strings"
	"testing"

	"magneto/api"
)

// plan is what a frame's levels are put together of. A frame's own have noughts where it says nothing of them, and 1 as same.
type plan struct {
	id       int
	ext, rtr bool
	same     int // the level at the place 12 of long ones
	reserved int // the reserved levels, as a number
	told     int
	data     []byte
}

// own are the levels up to the end of the sum, without those that are added, in the document's own words, apart from the program.
func (p plan) own() string {
	remote := 0
	if p.rtr {
		remote = 1
	}
	text := fmt.Sprintf("0%011b%d0%01b%04b", p.id, remote, p.reserved, p.told)
	if p.ext {
		text = fmt.Sprintf("0%011b%d1%018b%d%02b%04b", p.id/262144, p.same, p.id%262144, remote, p.reserved, p.told)
	}
	for _, b := range p.data {
		text += fmt.Sprintf("%08b", b)
	}
	return text + fmt.Sprintf("%015b", remainder(text))
}

// bus are the levels on the bus.
func (p plan) bus(ack bool) string {
	if ack {
		return stuffed(p.own()) + "1011111111"
	}
	return stuffed(p.own()) + "1111111111"
}

// frame is the frame that these levels are of.
func (p plan) frame() api.Frame {
	f := api.Frame{ID: p.id, Ext: p.ext, Rtr: p.rtr, Len: min(p.told, 8)}
	copy(f.Data[:], p.data)
	return f
}

// remainder is the CRC-15 of levels, by a division on paper: all levels and 15 noughts, less the divisor wherever a 1 is first.
func remainder(text string) int {
	const divisor = 0b1100010110011001
	rest := 0
	for _, c := range text + strings.Repeat("0", 15) {
		rest = 2*rest + int(c-'0')
		if rest >= 1<<15 {
			rest ^= divisor
		}
	}
	return rest
}

// stuffed is a text with what is added to it.
func stuffed(text string) string {
	told := ""
	for i := range text {
		told += text[i : i+1]
		if strings.HasSuffix(told, "00000") {
			told += "1"
		} else if strings.HasSuffix(told, "11111") {
			told += "0"
		}
	}
	return told
}

// levels are those that a text of 0 and 1 names.
func levels(text string) []int {
	l := make([]int, len(text))
	for i := range text {
		l[i] = int(text[i] - '0')
	}
	return l
}

// addedAt are the places of the levels that are added, of a text of whole levels on the bus.
func addedAt(text string) []int {
	var at []int
	run := 0
	for i := range len(text) - 10 {
		if run == 5 {
			at = append(at, i)
		}
		if i > 0 && text[i] == text[i-1] {
			run++
		} else {
			run = 1
		}
	}
	return at
}

// pattern are n bytes without a mirror, that differ from each other.
func pattern(n int) []byte {
	l := make([]byte, n)
	for i := range l {
		l[i] = byte(0xB1*(i+1) + n)
	}
	return l
}

// ids are IDs at which something may change, of a kind.
func ids(ext bool) []int {
	l := []int{0, 1, 2, 0x123, 0x3E0, 0x41F, 0x555, 1024, 2046, 2047}
	if ext {
		l = append(l, 2048, 0x12345, 1<<17, 1<<18-1, 1<<18, 1<<18|1, 0x0A5A5A5A, 0x15555555, 1<<28, 536870910, 536870911)
	}
	return l
}

// plans are frames that may be, as they are told themselves.
func plans() []plan {
	var l []plan
	for _, ext := range []bool{false, true} {
		for _, id := range ids(ext) {
			for n := range 9 {
				l = append(l,
					plan{id: id, ext: ext, same: 1, told: n, data: pattern(n)},
					plan{id: id, ext: ext, same: 1, told: n, data: make([]byte, n)},
					plan{id: id, ext: ext, same: 1, told: n, data: slices.Repeat([]byte{255}, n)},
					plan{id: id, ext: ext, same: 1, told: n, data: []byte{0xF8, 0x78, 0x3C, 0x1E, 0x0F, 0x87, 0xC3, 0xE1}[:n]},
					plan{id: id, ext: ext, same: 1, told: n, rtr: true})
			}
		}
	}
	return append(l, fullSums()...)
}

// fullSums are frames behind whose sum a level is added: it ends with five 0 or 1, or with four and an added one ahead of them; short and long, with and without data, and remote.
func fullSums() []plan {
	var l []plan
	for _, tail := range []string{"00000", "11111", "111110000", "000001111"} {
		for _, ext := range []bool{false, true} {
			for _, p := range []plan{{ext: ext}, {ext: ext, told: 2, data: []byte{0xA5, 0x3C}}, {ext: ext, told: 8, data: pattern(8)}, {ext: ext, told: 4, rtr: true}} {
				p.same = 1
				l = append(l, search(p, func(own string) bool {
					return strings.HasSuffix(own, tail) && len(stuffed(own)) == len(stuffed(own[:len(own)-1]))+2
				}))
			}
		}
	}
	return l
}

// search is a plan with the first ID at which its own levels are as asked.
func search(p plan, is func(own string) bool) plan {
	for p.id = 0; p.id <= 2047; p.id++ {
		if is(p.own()) {
			return p
		}
	}
	panic("there is no such frame")
}

// strange are rows that no frame tells of itself: reserved levels that are 1, the other level at the place 12, and 9 to 15 bytes told.
func strange() []plan {
	var l []plan
	for _, ext := range []bool{false, true} {
		for told := range 16 {
			for _, id := range []int{0, 0x123, 2047} {
				for reserved := range 4 {
					for same := range 2 {
						if !ext && (reserved > 1 || same > 0) {
							continue
						}
						l = append(l,
							plan{id: id, ext: ext, same: same, reserved: reserved, told: told, data: pattern(min(told, 8))},
							plan{id: id, ext: ext, same: same, reserved: reserved, told: told, rtr: true})
					}
				}
			}
		}
	}
	return l
}

// few are some plans of each kind.
func few() []plan {
	l := []plan{{}, {id: 2047, told: 8, data: slices.Repeat([]byte{255}, 8)}}
	for _, ext := range []bool{false, true} {
		for _, rtr := range []bool{false, true} {
			for _, told := range []int{0, 1, 8, 15} {
				p := plan{id: 0x123, ext: ext, same: 1, rtr: rtr, told: told}
				if !rtr {
					p.data = pattern(min(told, 8))
				}
				l = append(l, p)
			}
		}
	}
	return append(l, fullSums()...)
}

// sample are each seventh of plans, for what is tried at each place.
func sample(all []plan) []plan {
	var l []plan
	for i := 0; i < len(all); i += 7 {
		l = append(l, all[i])
	}
	return l
}

// wrongFrames are frames that may not be.
func wrongFrames() []api.Frame {
	return []api.Frame{
		{ID: -1}, {ID: 2048}, {ID: 536870911}, {ID: math.MinInt}, {ID: math.MaxInt}, {ID: 2048, Rtr: true},
		{ID: -1, Ext: true}, {ID: 536870912, Ext: true}, {ID: math.MinInt, Ext: true}, {ID: math.MaxInt, Ext: true}, {ID: 1 << 32, Ext: true},
		{Len: -1}, {Len: 9}, {Len: 15}, {Len: 16}, {Len: math.MinInt}, {Len: math.MaxInt}, {Len: -1, Rtr: true}, {Len: 9, Rtr: true}, {Len: 9, Ext: true},
		{Data: [8]byte{1}}, {Len: 7, Data: [8]byte{7: 1}}, {Len: 1, Ext: true, Data: [8]byte{1, 1}},
		{Rtr: true, Len: 1, Data: [8]byte{1}}, {Ext: true, Rtr: true, Len: 8, Data: [8]byte{7: 128}},
	}
}

// noLevels are numbers that are no levels.
func noLevels() []int {
	return []int{-1, 2, -2, 5, 48, 49, 256, 257, 1 << 32, 1<<32 + 1, math.MaxInt, math.MinInt}
}

// with is a row with another number at a place.
func with(l []int, at, number int) []int {
	l = slices.Clone(l)
	l[at] = number
	return l
}

// longer is a row with more behind it, in memory of its own.
func longer(l []int, more ...int) []int {
	return append(slices.Clone(l), more...)
}

// wantDecode holds Decode of numbers against a frame, a number and an error.
func wantDecode(t *testing.T, l []int, f api.Frame, n int, e api.Errno) {
	t.Helper()
	if gotF, gotN, gotE := Decode(l); gotF != f || gotN != n || gotE != e {
		t.Fatalf("Decode(%v) = %+v, %d, %v, not %+v, %d, %v", l, gotF, gotN, gotE, f, n, e)
	}
}

// wantWrong holds Decode of numbers against a place and an error.
func wantWrong(t *testing.T, l []int, at int, e api.Errno) {
	t.Helper()
	wantDecode(t, l, api.Frame{}, at, e)
}

// wantAsked holds Decode of numbers against what the document's words ask of them.
func wantAsked(t *testing.T, l []int) {
	t.Helper()
	f, n, e := asked(l)
	wantDecode(t, l, f, n, e)
}

// asked is what the document asks of Decode, apart from the program: by texts of the frame's own levels, and by places that are counted out ahead.
func asked(l []int) (api.Frame, int, api.Errno) {
	own, run, last := "", 0, 2
	for at, number := range l {
		ahead, whole := places(own)
		if number != 0 && number != 1 {
			return api.Frame{}, at, api.ErrRange
		}
		if at == 0 && number == 1 {
			return api.Frame{}, at, api.ErrForm
		}
		isAdded := run == 5
		if number == last {
			run++
		} else {
			run, last = 1, number
		}
		if isAdded {
			if run == 6 {
				return api.Frame{}, at, api.ErrStuff
			}
			continue
		}
		behind := len(own) - ahead - 15 // from Delim on, which has the place 0
		if whole && behind == 0 && fmt.Sprintf("%015b", remainder(own[:ahead])) != own[ahead:] {
			return api.Frame{}, at, api.ErrSum
		}
		if whole && behind >= 0 && behind != 1 && number == 0 {
			return api.Frame{}, at, api.ErrForm
		}
		if whole && behind >= 0 {
			run, last = 0, 2 // nothing is added any more
		}
		own += string(rune('0' + number))
		if whole && behind == 9 {
			return told(own), at + 1, api.OK
		}
	}
	return api.Frame{}, len(l), api.ErrShort
}

// places are how many of a frame's own levels are ahead of the sum, if that is known yet.
func places(own string) (int, bool) {
	ctrl, remote := 19, 12
	if len(own) > 13 && own[13] == '1' {
		ctrl, remote = 39, 32
	}
	if len(own) < ctrl {
		return 0, false
	}
	if own[remote] == '1' {
		return ctrl, true
	}
	return ctrl + 8*min(number(own[ctrl-4:ctrl]), 8), true
}

// told is the frame of whole levels.
func told(own string) api.Frame {
	f := api.Frame{ID: number(own[1:12]), Rtr: own[12] == '1', Len: min(number(own[15:19]), 8)}
	data := own[19:]
	if own[13] == '1' {
		f = api.Frame{ID: number(own[1:12])<<18 + number(own[14:32]), Ext: true, Rtr: own[32] == '1', Len: min(number(own[35:39]), 8)}
		data = own[39:]
	}
	if !f.Rtr {
		for i := range f.Len {
			f.Data[i] = byte(number(data[8*i : 8*i+8]))
		}
	}
	return f
}

// number is what a text of binary digits names.
func number(text string) int {
	n := 0
	for _, c := range text {
		n = 2*n + int(c-'0')
	}
	return n
}

// P6.1

func TestEncodeNoughts(t *testing.T) {
	want := strings.Repeat("000001", 6) + "0000"
	for tail, ack := range map[string]bool{"1011111111": true, "1111111111": false} {
		if l, e := Encode(api.Frame{}, ack); !slices.Equal(l, levels(want+tail)) || len(l) != 50 || e != api.OK {
			t.Errorf("the frame of noughts: %v, %v", l, e)
		}
	}
}

func TestEncodeNamed(t *testing.T) {
	for _, x := range []struct {
		f    api.Frame
		text string
	}{
		// 0, the ID, data, short, reserved, no bytes; 11111 has a 0 behind it, which counts for the next five, of which four are the frame's.
		{api.Frame{ID: 0x7C0}, "0" + "111110" + "0000" + "1" + "00" + "0" + "0" + "0" + "1" + "000"},
		{api.Frame{ID: 0x41F}, "0" + "100000" + "1" + "1111" + "0" + "1" + "0000"},
		{api.Frame{ID: 0x555, Len: 1, Data: [8]byte{0xF0}}, "0" + "10101010101" + "000" + "00" + "1" + "01" + "1111" + "0" + "0000" + "1"},
		{api.Frame{ID: 0x555, Rtr: true, Len: 8}, "0" + "10101010101" + "10" + "0" + "1000"},
		{api.Frame{ID: 0x0AAAAAAA, Ext: true}, "0" + "01010101010" + "11" + "101010101010101010" + "0" + "00" + "0" + "1" + "000"},
	} {
		if l, e := Encode(x.f, true); e != api.OK || len(l) < len(x.text) || !slices.Equal(l[:len(x.text)], levels(x.text)) {
			t.Errorf("Encode(%+v) = %v, %v, not %s at first", x.f, l, e, x.text)
		}
	}
}

func TestEncode(t *testing.T) {
	for _, p := range plans() {
		for _, ack := range []bool{false, true} {
			want := p.bus(ack)
			if l, e := Encode(p.frame(), ack); !slices.Equal(l, levels(want)) || e != api.OK {
				t.Fatalf("Encode(%+v, %v) = %v, %v, not %s", p.frame(), ack, l, e, want)
			}
			if n, e := Length(p.frame()); n != len(want) || e != api.OK {
				t.Fatalf("Length(%+v) = %d, %v, not %d", p.frame(), n, e, len(want))
			}
		}
	}
}

func TestEncodeBehindASumThatEndsFull(t *testing.T) {
	for _, p := range fullSums() {
		own := p.own()
		last := own[len(own)-1]
		l, e := Encode(p.frame(), true)
		if e != api.OK || len(l) < 17 {
			t.Fatalf("Encode(%+v) = %v, %v", p.frame(), l, e)
		}
		end := l[len(l)-16:]
		want := "000001" + "1011111111"
		if last == '1' {
			want = "111110" + "1011111111"
		}
		if !slices.Equal(end, levels(want)) {
			t.Errorf("Encode(%+v) ends %v, not %s", p.frame(), end, want)
		}
	}
}

func TestEncodeWrong(t *testing.T) {
	for _, f := range wrongFrames() {
		for _, ack := range []bool{false, true} {
			if l, e := Encode(f, ack); l != nil || e != api.ErrFrame {
				t.Errorf("Encode(%+v, %v) = %v, %v", f, ack, l, e)
			}
		}
		if n, e := Length(f); n != 0 || e != api.ErrFrame {
			t.Errorf("Length(%+v) = %d, %v", f, n, e)
		}
	}
}

func TestLongest(t *testing.T) {
	for _, x := range []struct {
		n, short, long int
	}{{0, 52, 77}, {1, 62, 87}, {2, 72, 97}, {3, 82, 107}, {4, 92, 117}, {5, 102, 127}, {6, 112, 137}, {7, 122, 147}, {8, 132, 157}} {
		if n, e := Longest(x.n, false); n != x.short || e != api.OK {
			t.Errorf("Longest(%d, false) = %d, %v, not %d", x.n, n, e, x.short)
		}
		if n, e := Longest(x.n, true); n != x.long || e != api.OK {
			t.Errorf("Longest(%d, true) = %d, %v, not %d", x.n, n, e, x.long)
		}
	}
	for _, n := range []int{-1, 9, -2, 10, 15, 16, -8, 256, 1 << 32, math.MinInt, math.MaxInt} {
		for _, ext := range []bool{false, true} {
			if m, e := Longest(n, ext); m != 0 || e != api.ErrRange {
				t.Errorf("Longest(%d, %v) = %d, %v", n, ext, m, e)
			}
		}
	}
}

// P6.2

func TestDecode(t *testing.T) {
	for _, p := range slices.Concat(plans(), strange()) {
		for _, ack := range []bool{false, true} {
			l := levels(p.bus(ack))
			wantDecode(t, l, p.frame(), len(l), api.OK)
		}
	}
}

func TestDecodeAsksNothingBehind(t *testing.T) {
	for _, p := range few() {
		l := levels(p.bus(true))
		for _, more := range [][]int{{0}, {1}, {2}, {-1, 0}, {0, 5}, {math.MinInt}, make([]int, 200), slices.Repeat([]int{1}, 200), slices.Repeat([]int{7}, 200), l, make([]int, 1<<20)} {
			wantDecode(t, longer(l, more...), p.frame(), len(l), api.OK)
		}
	}
}

func TestDecodeBeginnings(t *testing.T) {
	for _, p := range slices.Concat(few(), sample(plans()), sample(strange())) {
		l := levels(p.bus(p.id%2 == 0))
		for n := range l {
			wantWrong(t, l[:n], n, api.ErrShort)
		}
	}
	wantWrong(t, nil, 0, api.ErrShort)
	wantWrong(t, []int{}, 0, api.ErrShort)
	wantWrong(t, []int{0}, 1, api.ErrShort)
}

func TestDecodeNoLevel(t *testing.T) {
	for _, p := range few() {
		l := levels(p.bus(true))
		for at := range l {
			for _, number := range noLevels() {
				whole := with(l, at, number)
				wantWrong(t, whole, at, api.ErrRange)
				wantWrong(t, whole[:at+1], at, api.ErrRange)
				// Others behind it are not told, of whatever kind.
				wantWrong(t, append(slices.Clone(whole[:at+1]), slices.Repeat([]int{3}, 200)...), at, api.ErrRange)
				wantWrong(t, append(slices.Clone(whole[:at+1]), make([]int, 200)...), at, api.ErrRange)
			}
		}
	}
}

// TestDecodeNoLevelBehind has what is wrong ahead of a number that is no level: that comes first.
func TestDecodeNoLevelBehind(t *testing.T) {
	for _, p := range few() {
		text := p.bus(true)
		l := levels(text)
		sumEnd := len(l) - 10
		for at := 1; at < len(l); at++ {
			wantWrong(t, with(with(l, 0, 1), at, 2), 0, api.ErrForm)
		}
		for _, at := range addedAt(text) {
			for behind := at + 1; behind < len(l); behind++ {
				wantWrong(t, with(with(l, at, l[at-1]), behind, -1), at, api.ErrStuff)
			}
		}
		for _, at := range []int{sumEnd, sumEnd + 2, len(l) - 7, len(l) - 2} {
			wantWrong(t, with(with(l, at, 0), at+1, 2), at, api.ErrForm)
		}
	}
}

func TestDecodeFirstIsOne(t *testing.T) {
	for _, p := range few() {
		l := levels(p.bus(true))
		wantWrong(t, with(l, 0, 1), 0, api.ErrForm)
	}
	wantWrong(t, []int{1}, 0, api.ErrForm)
	wantWrong(t, slices.Repeat([]int{1}, 6), 0, api.ErrForm)
	wantWrong(t, slices.Repeat([]int{1}, 200), 0, api.ErrForm)
}

func TestDecodeSixAlike(t *testing.T) {
	ahead, within, behind := 0, 0, 0
	for _, p := range plans() {
		text := p.bus(true)
		own := p.own()
		sumFirst := len(stuffed(own[:len(own)-15]))
		for _, at := range addedAt(text) {
			l := levels(text)
			wantWrong(t, with(l, at, l[at-1]), at, api.ErrStuff)
			wantWrong(t, with(l, at, l[at-1])[:at+1], at, api.ErrStuff)
			switch {
			case at < sumFirst:
				ahead++
			case at == len(text)-11: // the last one ahead of the ten
				behind++
			default:
				within++
			}
		}
	}
	if ahead == 0 || within == 0 || behind < 16 {
		t.Errorf("%d ahead of sums, %d within, %d behind: some have not been tried", ahead, within, behind)
	}
	wantWrong(t, make([]int, 6), 5, api.ErrStuff)
	wantWrong(t, make([]int, 200), 5, api.ErrStuff)
	wantWrong(t, levels("0111111"), 6, api.ErrStuff)
	wantWrong(t, levels("00000111111"), 10, api.ErrStuff)
	wantWrong(t, levels("01111100000"), 11, api.ErrShort)
	wantWrong(t, levels("011111000000"), 11, api.ErrStuff)
}

// TestDecodeWrongSum has each sum that is not right, in levels that are stuffed as they should be.
func TestDecodeWrongSum(t *testing.T) {
	for i, p := range few() {
		own := p.own()
		step := 1
		if i > 0 {
			step = 97
		}
		for sum := 0; sum < 1<<15; sum += step {
			text := own[:len(own)-15] + fmt.Sprintf("%015b", sum)
			row := stuffed(text)
			l := levels(row + "1011111111")
			if text == own {
				wantDecode(t, l, p.frame(), len(l), api.OK)
				continue
			}
			wantWrong(t, l, len(row), api.ErrSum)
		}
	}
}

func TestDecodeWrongSumAndMore(t *testing.T) {
	for _, p := range few() {
		own := p.own()
		for at := len(own) - 15; at < len(own); at++ {
			turned := own[:at] + string('0'+'1'-own[at]) + own[at+1:]
			row := stuffed(turned)
			n := len(row)
			l := levels(row + "1011111111")
			wantWrong(t, with(l, n, 0), n, api.ErrSum)   // ahead of ErrForm
			wantWrong(t, with(l, n, 2), n, api.ErrRange) // which is ahead of ErrSum
			wantWrong(t, with(l, n+1, 2), n, api.ErrSum) // what is behind comes later
			wantWrong(t, with(l, n+2, 0), n, api.ErrSum) // likewise
			wantWrong(t, l[:n], n, api.ErrShort)         // Delim's is not there
			wantWrong(t, l[:n+1], n, api.ErrSum)         // it is enough
			wantWrong(t, with(l, n-1, -1), n-1, api.ErrRange)
		}
	}
}

func TestDecodeNoughtBehindTheSum(t *testing.T) {
	for _, p := range slices.Concat(few(), sample(plans())) {
		for _, ack := range []bool{false, true} {
			l := levels(p.bus(ack))
			n := len(l) - 10
			for _, at := range []int{n, n + 2, n + 3, n + 4, n + 5, n + 6, n + 7, n + 8, n + 9} {
				wantWrong(t, with(l, at, 0), at, api.ErrForm)
				wantWrong(t, with(l, at, 0)[:at+1], at, api.ErrForm)
			}
			for slot := range 2 {
				wantDecode(t, with(l, n+1, slot), p.frame(), len(l), api.OK)
			}
			// The first of several is told.
			wantWrong(t, append(slices.Clone(l[:n]), make([]int, 10)...), n, api.ErrForm)
			wantWrong(t, append(slices.Clone(l[:n+1]), make([]int, 9)...), n+2, api.ErrForm)
		}
	}
}

// TestDecodeCountsNothingBehindTheSum has sums that end one to four alike, with those behind five and more.
func TestDecodeCountsNothingBehindTheSum(t *testing.T) {
	for _, tail := range []string{"0", "00", "000", "0000", "1", "11", "111", "1111"} {
		for _, ext := range []bool{false, true} {
			other := "1"
			if tail[0] == '1' {
				other = "0"
			}
			p := search(plan{ext: ext, same: 1, told: 1, data: []byte{0x5A}}, func(own string) bool {
				return strings.HasSuffix(stuffed(own), other+tail) && strings.HasSuffix(own, other+tail)
			})
			for _, ack := range []bool{false, true} {
				l := levels(p.bus(ack))
				wantDecode(t, l, p.frame(), len(l), api.OK)
			}
		}
	}
}

// TestDecodeWithoutTheLastAdded has rows in which nothing is added behind a sum that ends five alike: the first level behind is taken as that.
func TestDecodeWithoutTheLastAdded(t *testing.T) {
	for _, p := range fullSums() {
		row := stuffed(p.own())
		row = row[:len(row)-1]
		n := len(row)
		if strings.HasSuffix(row, "1") {
			wantWrong(t, levels(row+"1011111111"), n, api.ErrStuff)
			continue
		}
		wantWrong(t, levels(row+"1011111111"), n+1, api.ErrForm)
		wantWrong(t, levels(row+"1111111111"), n+10, api.ErrShort)
		wantDecode(t, levels(row+"11111111111"), p.frame(), n+11, api.OK)
		wantDecode(t, levels(row+"11011111111"), p.frame(), n+11, api.OK)
	}
}

func TestDecodeOneTurned(t *testing.T) {
	for _, p := range slices.Concat(few(), sample(plans()), sample(strange())) {
		l := levels(p.bus(true))
		for at := range l {
			wantAsked(t, with(l, at, 1-l[at]))
		}
	}
}

func TestDecodeTwoTurned(t *testing.T) {
	for _, p := range few()[:8] {
		l := levels(p.bus(false))
		for at := range l {
			one := with(l, at, 1-l[at])
			for more := range at {
				wantAsked(t, with(one, more, 1-l[more]))
			}
		}
	}
}

// TestDecodeAnyLevels has rows that are made without a plan: whatever levels, stuffed or not, with sums that are right or not.
func TestDecodeAnyLevels(t *testing.T) {
	seed := uint32(3)
	next := func(n int) int {
		seed = seed*1664525 + 1013904223
		return int(seed>>16) % n
	}
	found := map[api.Errno]int{}
	for range 20000 {
		own := "0"
		for len(own) < 13+next(140) {
			own += fmt.Sprint(next(2))
		}
		if ahead, known := places(own); known && len(own) >= ahead && next(4) > 0 {
			own = own[:ahead] + fmt.Sprintf("%015b", remainder(own[:ahead]))
		}
		text := own
		if next(8) > 0 {
			text = stuffed(own)
		}
		l := levels(text + []string{"", "1", "0", "1011111111", "1111111111", "10111111110", "1111111101"}[next(7)])
		if next(10) == 0 {
			l[next(len(l))] = next(5) - 1
		}
		_, _, e := asked(l)
		found[e]++
		wantAsked(t, l)
	}
	for _, e := range []api.Errno{api.OK, api.ErrRange, api.ErrForm, api.ErrStuff, api.ErrSum, api.ErrShort} {
		if found[e] < 50 {
			t.Errorf("only %d rows are %v", found[e], e)
		}
	}
}

// P6.3

func TestThereAndBack(t *testing.T) {
	for _, p := range slices.Concat(fullSums(), sample(plans())) {
		for _, ack := range []bool{false, true} {
			f := p.frame()
			l, e := Encode(f, ack)
			if e != api.OK {
				t.Fatalf("Encode(%+v) = %v", f, e)
			}
			wantDecode(t, l, f, len(l), api.OK)
			for n := range l {
				wantWrong(t, l[:n], n, api.ErrShort)
			}
		}
	}
}

func TestNoSixAlikeUpToTheSum(t *testing.T) {
	for _, p := range plans() {
		l, _ := Encode(p.frame(), true)
		for at := 5; at < len(l)-10; at++ {
			if six := l[at-5 : at+1]; slices.Max(six) == slices.Min(six) {
				t.Fatalf("Encode(%+v) = %v has six alike at %d", p.frame(), l, at)
			}
		}
	}
}

func TestNoneIsLongerThanLongest(t *testing.T) {
	held := func(f api.Frame) {
		n, e := Length(f)
		has := f.Len
		if f.Rtr {
			has = 0
		}
		if most, g := Longest(has, f.Ext); n > most || e != api.OK || g != api.OK {
			t.Fatalf("Length(%+v) = %d, %v, but Longest %d, %v", f, n, e, most, g)
		}
	}
	for _, p := range plans() {
		held(p.frame())
	}
	for id := range 2048 {
		held(api.Frame{ID: id})
		held(api.Frame{ID: id, Rtr: true, Len: 8})
		held(api.Frame{ID: id << 18, Ext: true})
		// With what is added, these are five alike, again and again.
		held(api.Frame{ID: id, Len: 8, Data: [8]byte{0x1E, 0x1E, 0x1E, 0x1E, 0x1E, 0x1E, 0x1E, 0x1E}})
		held(api.Frame{ID: id, Len: 8, Data: [8]byte{0x3C, 0x3C, 0x3C, 0x3C, 0x3C, 0x3C, 0x3C, 0x3C}})
	}
}

// R1, R2, R3

func TestArgumentsStay(t *testing.T) {
	for _, p := range few() {
		l := levels(p.bus(true))
		for _, row := range [][]int{l, with(l, 0, 1), with(l, 7, 2), l[:20], nil} {
			room := longer(row, 7, 7, 7, 7)
			was := slices.Clone(room)
			Decode(room[:len(row)])
			if !slices.Equal(room, was) {
				t.Fatalf("Decode turns %v into %v", was, room)
			}
		}
	}
}

func TestAnswersShareNothing(t *testing.T) {
	for _, p := range few() {
		if p.told > 8 {
			continue
		}
		want := levels(p.bus(true))
		one, _ := Encode(p.frame(), true)
		two, _ := Encode(p.frame(), true)
		one = one[:cap(one)]
		for i := range one {
			one[i] = 9
		}
		three, _ := Encode(p.frame(), true)
		if !slices.Equal(two, want) || !slices.Equal(three, want) {
			t.Fatalf("Encode(%+v) = %v, %v, not %v", p.frame(), two, three, want)
		}
	}
}

func TestCallsKeepNothing(t *testing.T) {
	whole := levels(plan{id: 0x123}.bus(true))
	for _, ahead := range [][]int{nil, {1}, {2}, make([]int, 5), make([]int, 6), whole[:30], whole} {
		Decode(ahead)
		wantDecode(t, whole, api.Frame{ID: 0x123}, len(whole), api.OK)
		wantWrong(t, whole[:len(whole)-1], len(whole)-1, api.ErrShort)
	}
}
