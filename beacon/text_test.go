package beacon_test

import (
	"encoding/binary"
	"math"
	"math/rand"
	"strings"
	"testing"

	"beacon/api"
	"beacon/beacon"
)

// forms are numbers at each edge, and their bytes.
var forms = []struct {
	n     int
	bytes string
}{
	{0, "\x00"},
	{1, "\x01"},
	{22, "\x16"},
	{23, "\x17"},
	{24, "\x18\x18"},
	{25, "\x18\x19"},
	{127, "\x18\x7f"},
	{128, "\x18\x80"},
	{135, "\x18\x87"},
	{254, "\x18\xfe"},
	{255, "\x18\xff"},
	{256, "\x19\x01\x00"},
	{257, "\x19\x01\x01"},
	{32768, "\x19\x80\x00"},
	{65534, "\x19\xff\xfe"},
	{65535, "\x19\xff\xff"},
	{65536, "\x1a\x00\x01\x00\x00"},
	{65537, "\x1a\x00\x01\x00\x01"},
	{1 << 24, "\x1a\x01\x00\x00\x00"},
	{0x1234567, "\x1a\x01\x23\x45\x67"},
	{2147483648, "\x1a\x80\x00\x00\x00"},
	{4294967294, "\x1a\xff\xff\xff\xfe"},
	{4294967295, "\x1a\xff\xff\xff\xff"},
	{4294967296, "\x1b\x00\x00\x00\x01\x00\x00\x00\x00"},
	{4294967297, "\x1b\x00\x00\x00\x01\x00\x00\x00\x01"},
	{1 << 40, "\x1b\x00\x00\x01\x00\x00\x00\x00\x00"},
	{0x123456789abcdef, "\x1b\x01\x23\x45\x67\x89\xab\xcd\xef"},
	{1 << 62, "\x1b\x40\x00\x00\x00\x00\x00\x00\x00"},
	{math.MaxInt - 1, "\x1b\x7f\xff\xff\xff\xff\xff\xff\xfe"},
	{math.MaxInt, "\x1b\x7f\xff\xff\xff\xff\xff\xff\xff"},
}

// numbersOf tells where a header's seven numbers stand, in the order of a text.
func numbersOf(h *api.Header) [7]*int {
	return [7]*int{&h.Slot, &h.Pool, &h.Proof, &h.Count, &h.From, &h.To, &h.Amount}
}

// plainText tells a header's text by the library's means.
func plainText(h api.Header) string {
	text := []byte{135}
	for _, number := range numbersOf(&h) {
		n := uint64(*number)
		switch {
		case n <= 23:
			text = append(text, byte(n))
		case n <= math.MaxUint8:
			text = append(text, 24, byte(n))
		case n <= math.MaxUint16:
			text = binary.BigEndian.AppendUint16(append(text, 25), uint16(n))
		case n <= math.MaxUint32:
			text = binary.BigEndian.AppendUint32(append(text, 26), uint32(n))
		default:
			text = binary.BigEndian.AppendUint64(append(text, 27), n)
		}
	}
	return string(text)
}

// plainHeader tells the only header that a text could be of, read without care
// for the form, if its text is the same.
func plainHeader(text string) (api.Header, bool) {
	h := api.Header{}
	left := []byte(text + strings.Repeat("\x00", 64))[1:]
	for _, number := range numbersOf(&h) {
		first := left[0]
		left = left[1:]
		switch first {
		case 24:
			*number, left = int(left[0]), left[1:]
		case 25:
			*number, left = int(binary.BigEndian.Uint16(left)), left[2:]
		case 26:
			*number, left = int(binary.BigEndian.Uint32(left)), left[4:]
		case 27:
			*number, left = int(binary.BigEndian.Uint64(left)), left[8:]
		default:
			*number = int(first)
		}
		if *number < 0 {
			return api.Header{}, false
		}
	}
	if plainText(h) != text {
		return api.Header{}, false
	}
	return h, true
}

func checkEncode(t *testing.T, h api.Header, want string, wantErr api.Errno) {
	t.Helper()
	text, err := beacon.Encode(h)
	if text != want || err != wantErr {
		t.Fatalf("Encode(%+v) = %v, %d, want %v, %d", h, []byte(text), err, []byte(want), wantErr)
	}
}

func checkDecode(t *testing.T, text string, want api.Header, wantErr api.Errno) {
	t.Helper()
	h, err := beacon.Decode(text)
	if h != want || err != wantErr {
		t.Fatalf("Decode(%.99q) = %+v, %d, want %+v, %d", text, h, err, want, wantErr)
	}
}

// checkBoth asks for a header's text, and for the header of that.
func checkBoth(t *testing.T, h api.Header, text string) {
	t.Helper()
	checkEncode(t, h, text, api.OK)
	checkDecode(t, text, h, api.OK)
}

func checkNoText(t *testing.T, text string) {
	t.Helper()
	checkDecode(t, text, api.Header{}, api.ErrForm)
}

// checkAnyText asks of a text that may be a header's or not.
func checkAnyText(t *testing.T, text string) bool {
	t.Helper()
	h, is := plainHeader(text)
	if is {
		checkDecode(t, text, h, api.OK)
	} else {
		checkNoText(t, text)
	}
	return is
}

func TestP10Examples(t *testing.T) {
	checkEncode(t, firstHeader, string([]byte{135, 0, 0, 24, 236, 0, 0, 1, 2}), api.OK)
	checkEncode(t, api.Header{Slot: 300}, string([]byte{135, 25, 1, 44, 0, 0, 0, 0, 0, 0}), api.OK)
	checkEncode(t, api.Header{}, string([]byte{135, 0, 0, 0, 0, 0, 0, 0}), api.OK)
	checkEncode(t, api.Header{Slot: 1, Pool: 2, Proof: 3, Count: 4, From: 5, To: 6, Amount: 7}, string([]byte{135, 1, 2, 3, 4, 5, 6, 7}), api.OK)
}

// Each edge in each place, beside zeros and beside every other edge.
func TestP10EdgesInEachPlace(t *testing.T) {
	for i, form := range forms {
		for place := range 7 {
			h := api.Header{}
			*numbersOf(&h)[place] = form.n
			checkBoth(t, h, "\x87"+strings.Repeat("\x00", place)+form.bytes+strings.Repeat("\x00", 6-place))
		}
		for step := range len(forms) {
			h := api.Header{}
			text := "\x87"
			for place, number := range numbersOf(&h) {
				other := forms[(i+place*step)%len(forms)]
				*number = other.n
				text += other.bytes
			}
			checkBoth(t, h, text)
		}
	}
}

func TestP10EveryNumberBelow70000(t *testing.T) {
	for n := range 70000 {
		h := api.Header{Slot: n, Proof: 70000 - n, Amount: n}
		checkBoth(t, h, plainText(h))
	}
}

// One number below 0 in each place, beside others that may be or not.
func TestP10BelowZero(t *testing.T) {
	for place := range 7 {
		for _, below := range []int{-1, -2, -23, -24, -25, -256, -65536, -1 << 32, math.MinInt + 1, math.MinInt} {
			for _, others := range []int{0, 23, 24, 300, 1 << 32, math.MaxInt, -1, math.MinInt} {
				h := api.Header{}
				for _, number := range numbersOf(&h) {
					*number = others
				}
				*numbersOf(&h)[place] = below
				checkEncode(t, h, "", api.ErrArg)
			}
		}
	}
}

// drawnNumber draws one of every size alike.
func drawnNumber(r *rand.Rand) int {
	return int(r.Uint64()>>1) >> r.Intn(63)
}

func drawnNumbers(r *rand.Rand) api.Header {
	h := api.Header{}
	for _, number := range numbersOf(&h) {
		*number = drawnNumber(r)
	}
	return h
}

func TestP11DrawnHeadersComeBack(t *testing.T) {
	r := rand.New(rand.NewSource(21))
	for range 20000 {
		h := drawnNumbers(r)
		checkBoth(t, h, plainText(h))
	}
}

func TestP11Examples(t *testing.T) {
	checkDecode(t, string([]byte{135, 0, 0, 24, 236, 0, 0, 1, 2}), firstHeader, api.OK)
	checkDecode(t, string([]byte{135, 25, 1, 44, 0, 0, 0, 0, 0, 0}), api.Header{Slot: 300}, api.OK)
	for _, bytes := range [][]byte{
		{135, 24, 5, 0, 0, 0, 0, 0, 0},
		{136, 0, 0, 0, 0, 0, 0, 0},
		{136, 0, 0, 24, 236, 0, 0, 1, 2},
		{135, 0, 0, 0, 0, 0, 0},
		{135, 0, 0, 0, 0, 0, 0, 0, 0},
		{135, 27, 128, 0, 0, 0, 0, 0, 0, 0, 0, 0, 0, 0, 0, 0},
	} {
		checkNoText(t, string(bytes))
	}
}

// someTexts are of every kind of number in every place.
func someTexts() []string {
	list := []string{"\x87" + strings.Repeat("\x00", 7), plainText(firstHeader), plainText(api.Header{Slot: 300})}
	for i, form := range forms {
		list = append(list, "\x87"+strings.Repeat(form.bytes, 7))
		text := "\x87"
		for place := range 7 {
			text += forms[(i+place*4)%len(forms)].bytes
		}
		list = append(list, text)
	}
	return list
}

func TestP11TooShort(t *testing.T) {
	for _, text := range someTexts() {
		for cut := range len(text) {
			checkNoText(t, text[:cut])
			if cut > 0 {
				checkAnyText(t, text[cut:])
				checkAnyText(t, text[:cut-1]+text[cut:])
			}
		}
	}
}

func TestP11TooLong(t *testing.T) {
	for _, text := range someTexts() {
		for more := range 256 {
			checkNoText(t, text+string([]byte{byte(more)}))
			checkNoText(t, string([]byte{byte(more)})+text)
		}
		for _, form := range forms {
			checkNoText(t, text+form.bytes)
		}
		checkNoText(t, text+text)
		checkNoText(t, text+strings.Repeat("\x00", 1<<16))
	}
	for _, more := range []string{"\x00", "\x18", "\x1b", "\x87", "\xff"} {
		checkNoText(t, "\x87"+strings.Repeat(more, 1<<22))
		checkNoText(t, strings.Repeat(more, 1<<22))
	}
}

func TestP11OtherFirstByte(t *testing.T) {
	for _, text := range someTexts() {
		for first := range 256 {
			if first != 135 {
				checkNoText(t, string([]byte{byte(first)})+text[1:])
			}
		}
	}
}

// inPlace lays a number's bytes into one place of a text whose other numbers
// are 1.
func inPlace(place int, bytes string) string {
	return "\x87" + strings.Repeat("\x01", place) + bytes + strings.Repeat("\x01", 6-place)
}

// longForms tells the forms of a number that have more bytes than it needs.
func longForms(n int) []string {
	var list []string
	if n < 24 {
		list = append(list, string([]byte{24, byte(n)}))
	}
	if n < 256 {
		list = append(list, string(binary.BigEndian.AppendUint16([]byte{25}, uint16(n))))
	}
	if n < 65536 {
		list = append(list, string(binary.BigEndian.AppendUint32([]byte{26}, uint32(n))))
	}
	if n < 4294967296 {
		list = append(list, string(binary.BigEndian.AppendUint64([]byte{27}, uint64(n))))
	}
	return list
}

func TestP11MoreBytesThanNeeded(t *testing.T) {
	seen := 0
	for _, form := range forms {
		for place := range 7 {
			checkDecode(t, inPlace(place, form.bytes), withNumber(place, form.n), api.OK)
			for _, long := range longForms(form.n) {
				checkNoText(t, inPlace(place, long))
				seen++
			}
		}
	}
	if seen < 300 {
		t.Errorf("%d long forms were asked for", seen)
	}
}

// withNumber is the header of inPlace.
func withNumber(place int, n int) api.Header {
	h := api.Header{Slot: 1, Pool: 1, Proof: 1, Count: 1, From: 1, To: 1, Amount: 1}
	*numbersOf(&h)[place] = n
	return h
}

func TestP11NumbersAboveTheGreatestInt(t *testing.T) {
	for place := range 7 {
		for first := 128; first < 256; first++ {
			for _, rest := range []string{"\x00", "\x01", "\x7f", "\x80", "\xff"} {
				checkNoText(t, inPlace(place, "\x1b"+string([]byte{byte(first)})+strings.Repeat(rest, 7)))
			}
		}
		checkNoText(t, inPlace(place, "\x1b\x80\x00\x00\x00\x00\x00\x00\x05"))
		checkNoText(t, inPlace(place, "\x1b\x80\x00\x00\x01\x00\x00\x00\x00"))
	}
}

func TestP11FirstBytesOfNoNumber(t *testing.T) {
	for place := range 7 {
		for first := 28; first < 256; first++ {
			for behind := range 18 {
				checkNoText(t, inPlace(place, string([]byte{byte(first)})+strings.Repeat("\x01", behind)))
			}
		}
	}
}

// Every byte of a text is changed to every other.
func TestP11EveryByteChanged(t *testing.T) {
	is, isNot := 0, 0
	for _, text := range someTexts() {
		for at := range len(text) {
			for other := range 256 {
				bytes := []byte(text)
				bytes[at] = byte(other)
				if checkAnyText(t, string(bytes)) {
					is++
				} else {
					isNot++
				}
			}
		}
	}
	if is < 1000 || isNot < 1000 {
		t.Errorf("%d were texts, %d were none", is, isNot)
	}
}

func TestP11DrawnTexts(t *testing.T) {
	r := rand.New(rand.NewSource(22))
	often := []byte{0, 0, 0, 1, 2, 22, 23, 23, 24, 24, 25, 26, 27, 28, 127, 128, 135, 255}
	is := 0
	for range 300000 {
		bytes := []byte{135}
		for range r.Intn(16) {
			bytes = append(bytes, often[r.Intn(len(often))])
		}
		if checkAnyText(t, string(bytes)) {
			is++
		}
	}
	if is < 300 {
		t.Errorf("%d were texts", is)
	}
}

func TestP11ShortestTexts(t *testing.T) {
	checkNoText(t, "")
	for one := range 256 {
		checkNoText(t, string([]byte{byte(one)}))
		for other := range 256 {
			checkNoText(t, string([]byte{byte(one), byte(other)}))
			checkNoText(t, string([]byte{135, byte(one), byte(other)}))
		}
	}
}

func TestP1TextsAtWildNumbers(t *testing.T) {
	for _, one := range wildNumbers {
		for _, other := range wildNumbers {
			for i := range 7 {
				for j := range 7 {
					h := firstHeader
					*numbersOf(&h)[i] = one
					*numbersOf(&h)[j] = other
					if other < 0 || i != j && one < 0 {
						checkEncode(t, h, "", api.ErrArg)
					} else {
						checkBoth(t, h, plainText(h))
					}
				}
			}
		}
	}
}
