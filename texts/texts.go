// Package texts: headers as bytes.
package texts

import "beacon/api"

// mark is the byte that every header's text begins with.
const mark = 135

// The first byte of a number that has more than one tells how many follow.
const (
	oneByte    = 24
	twoBytes   = 25
	fourBytes  = 26
	eightBytes = 27
)

// Encode tells a header's text (P10).
func Encode(h api.Header) (string, api.Errno) {
	numbers := [7]int{h.Slot, h.Pool, h.Proof, h.Count, h.From, h.To, h.Amount}
	text := string([]byte{mark})
	for i := 0; i < len(numbers); i++ {
		if numbers[i] < 0 {
			return "", api.ErrArg
		}
		text += write(numbers[i])
	}
	return text, api.OK
}

// write tells the bytes of a number that is not below 0.
func write(n int) string {
	first := firstByte(n)
	text := ""
	for left := bytesBehind(first); left > 0; left-- {
		text = string([]byte{byte(n % 256)}) + text
		n = n / 256
	}
	return string([]byte{byte(first)}) + text
}

// firstByte tells the first byte of the shortest form of a number.
func firstByte(n int) int {
	switch {
	case n < 24:
		return n
	case n < 256:
		return oneByte
	case n < 65536:
		return twoBytes
	case n < 4294967296:
		return fourBytes
	}
	return eightBytes
}

// bytesBehind tells how many bytes of a number follow its first one.
func bytesBehind(first int) int {
	switch first {
	case oneByte:
		return 1
	case twoBytes:
		return 2
	case fourBytes:
		return 4
	case eightBytes:
		return 8
	}
	return 0
}

// Decode tells the header whose text this is (P11).
func Decode(text string) (api.Header, api.Errno) {
	if len(text) == 0 || text[0] != mark {
		return api.Header{}, api.ErrForm
	}
	numbers := [7]int{}
	at := 1
	for i := 0; i < len(numbers); i++ {
		n, end, err := read(text, at)
		if err != api.OK {
			return api.Header{}, err
		}
		numbers[i] = n
		at = end
	}
	if at != len(text) {
		return api.Header{}, api.ErrForm
	}
	return api.Header{
		Slot: numbers[0], Pool: numbers[1], Proof: numbers[2], Count: numbers[3],
		From: numbers[4], To: numbers[5], Amount: numbers[6],
	}, api.OK
}

// read tells the number that begins at a place of a text, and the place behind
// it. A number in another form than its shortest is refused, so that a header
// has one text alone.
func read(text string, at int) (int, int, api.Errno) {
	if at < 0 || at >= len(text) {
		return 0, 0, api.ErrForm
	}
	first := int(text[at])
	size := bytesBehind(first)
	if first > eightBytes || size > len(text)-at-1 {
		return 0, 0, api.ErrForm
	}
	// Such a number would be greater than the greatest int.
	if size == 8 && text[at+1] >= 128 {
		return 0, 0, api.ErrForm
	}
	n := 0
	if size == 0 {
		n = first
	}
	for i := 1; i <= size; i++ {
		n = n*256 + int(text[at+i])
	}
	if firstByte(n) != first {
		return 0, 0, api.ErrForm
	}
	return n, at + 1 + size, api.OK
}
