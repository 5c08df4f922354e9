package frame

import (
	"bytes"
	"encoding/binary"
	"hash/crc32"
	"math"
	"slices"
	"testing"

	"winnower/api"
	"winnower/num"
)

// sumWant follows the chapter's definition step by step, in a register of 64 bits, so that
// nothing is shifted out of it by itself.
func sumWant(b []byte) int {
	register := uint64(1<<32 - 1)
	for _, c := range b {
		register = register - register%256 + (register%256 ^ uint64(c))
		for range 8 {
			out := register % 2
			register /= 2
			if out == 1 {
				register ^= 3988292384
			}
		}
	}
	return int(1<<32 - 1 - register)
}

// framed is a frame whose parts need not fit together.
func framed(length, payload []byte, sum int) []byte {
	b := append(bytes.Clone(length), payload...)
	return binary.LittleEndian.AppendUint32(b, uint32(sum))
}

func frameWant(payload []byte) []byte {
	return framed(num.PutLen(nil, len(payload)), payload, sumWant(payload))
}

// readWant is Read by comparison alone: there is a frame where b goes on with the frame of
// the payload that its length announces.
func readWant(b []byte) ([][]byte, int) {
	var payloads [][]byte
	position := 0
	for {
		rest := b[position:]
		n, digits, e := num.GetLen(rest)
		if e != api.OK || n > 65536 || n > len(rest)-digits {
			return payloads, position
		}
		payload := rest[digits : digits+n]
		if !bytes.HasPrefix(rest, frameWant(payload)) {
			return payloads, position
		}
		payloads = append(payloads, payload)
		position += len(frameWant(payload))
	}
}

// noise is n bytes without a pattern, others for another seed.
func noise(n, seed int) []byte {
	out, x := make([]byte, n), uint64(seed)
	for i := range out {
		x = x*6364136223846793005 + 1442695040888963407
		out[i] = byte(x >> 56)
	}
	return out
}

// joined are the bytes of consecutive frames, and where each of them ends.
func joined(t *testing.T, payloads [][]byte) ([]byte, []int) {
	t.Helper()
	var b []byte
	var ends []int
	for _, p := range payloads {
		f, e := Seal(p)
		if e != api.OK {
			t.Fatalf("Seal of %d bytes: %d", len(p), e)
		}
		b = append(b, f...)
		ends = append(ends, len(b))
	}
	return b, ends
}

// checkRead holds Read against payloads and a position that are known.
func checkRead(t *testing.T, name string, b []byte, payloads [][]byte, position int) {
	t.Helper()
	got, at := Read(b)
	if at != position || !slices.EqualFunc(got, payloads, bytes.Equal) {
		t.Fatalf("%s: Read of %d bytes: %d payloads, %d, not %d payloads, %d", name, len(b), len(got), at, len(payloads), position)
	}
}

func TestSumExamples(t *testing.T) {
	for _, c := range []struct {
		name string
		b    []byte
		sum  int
	}{
		{"nil", nil, 0},
		{"no byte", []byte{}, 0},
		{"the chapter's example", []byte("123456789"), 3421780262},
		{"one zero", []byte{0}, 0xD202EF8D},
		{"one letter", []byte("a"), 0xE8B7BE43},
		{"only ones", []byte{255, 255, 255, 255}, 0xFFFFFFFF},
		{"32 zeros", make([]byte, 32), 0x190A55AD},
		{"32 bytes of ones", bytes.Repeat([]byte{255}, 32), 0xFF6CAB0B},
		{"a sentence", []byte("The quick brown fox jumps over the lazy dog"), 0x414FA339},
	} {
		if sum := Sum(c.b); sum != c.sum {
			t.Errorf("%s: Sum: %d, not %d", c.name, sum, c.sum)
		}
	}
}

func TestSumFollowsTheDefinition(t *testing.T) {
	for a := range 256 {
		for b := range 256 {
			two := []byte{byte(a), byte(b)}
			if sum := Sum(two); sum != sumWant(two) {
				t.Fatalf("Sum of %v: %d, not %d", two, sum, sumWant(two))
			}
		}
	}
	for n := range 600 {
		b := noise(n, n)
		sum := Sum(b)
		if sum != sumWant(b) || sum != int(crc32.ChecksumIEEE(b)) || sum < 0 || sum >= 1<<32 {
			t.Fatalf("Sum of %v: %d, not %d", b, sum, sumWant(b))
		}
	}
}

func TestSumHasNoLimit(t *testing.T) {
	for _, n := range []int{api.MaxPayload, api.MaxPayload + 1, 1<<20 + 3} {
		b := noise(n, n)
		if sum := Sum(b); sum != sumWant(b) {
			t.Errorf("Sum of %d bytes: %d, not %d", n, sum, sumWant(b))
		}
	}
}

func TestSealExamples(t *testing.T) {
	for _, c := range []struct {
		name       string
		payload, b []byte
	}{
		{"nil", nil, []byte{0, 0, 0, 0, 0}},
		{"no byte", []byte{}, []byte{0, 0, 0, 0, 0}},
		{"the byte 7", []byte{7}, []byte{1, 7, 0x2E, 0x7A, 0x66, 0x4C}},
		{"one zero", []byte{0}, []byte{1, 0, 0x8D, 0xEF, 0x02, 0xD2}},
		{"nine digits", []byte("123456789"), []byte("\x09123456789\x26\x39\xF4\xCB")},
	} {
		if b, e := Seal(c.payload); e != api.OK || !bytes.Equal(b, c.b) {
			t.Errorf("%s: Seal: %v, %d, not %v", c.name, b, e, c.b)
		}
	}
}

func TestSealFollowsTheDefinition(t *testing.T) {
	for _, n := range []int{0, 1, 2, 126, 127, 128, 129, 300, 16383, 16384, 16385, api.MaxPayload - 1, api.MaxPayload} {
		payload := noise(n, n)
		b, e := Seal(payload)
		if e != api.OK || !bytes.Equal(b, frameWant(payload)) {
			t.Errorf("Seal of %d bytes: %d bytes, %d", n, len(b), e)
		}
		checkRead(t, "a frame of Seal", b, [][]byte{payload}, len(b))
	}
}

func TestSealOfTooManyBytes(t *testing.T) {
	for _, n := range []int{api.MaxPayload + 1, api.MaxPayload + 2, 3 * api.MaxPayload} {
		if b, e := Seal(make([]byte, n)); e != api.ErrLong || len(b) != 0 {
			t.Errorf("Seal of %d bytes: %d bytes, %d", n, len(b), e)
		}
	}
}

func TestReadOfNothing(t *testing.T) {
	checkRead(t, "nil", nil, nil, 0)
	checkRead(t, "no byte", []byte{}, nil, 0)
}

func TestReadOfZeros(t *testing.T) {
	// Five zeros are the frame of no byte.
	for n := range 64 {
		checkRead(t, "zeros", make([]byte, n), make([][]byte, n/5), n/5*5)
	}
}

func TestReadExamples(t *testing.T) {
	b, ends := joined(t, [][]byte{{7}, {8, 9}})
	checkRead(t, "two frames", b, [][]byte{{7}, {8, 9}}, len(b))
	checkRead(t, "two frames without the last byte", b[:len(b)-1], [][]byte{{7}}, ends[0])
}

// Every prefix, among them those that end within a length of two or three digits, within
// a payload and within a checksum.
func TestReadOfEveryPrefix(t *testing.T) {
	for _, sizes := range [][]int{
		{},
		{0},
		{1, 2, 3},
		{0, 0, 1, 0},
		{127, 128, 0, 300, 5},
		{16383, 1, 16384},
		{0, api.MaxPayload, 130},
	} {
		var payloads [][]byte
		for i, n := range sizes {
			payloads = append(payloads, noise(n, i))
		}
		b, ends := joined(t, payloads)
		for n := range len(b) + 1 {
			whole, position := 0, 0
			for whole < len(ends) && ends[whole] <= n {
				position = ends[whole]
				whole++
			}
			checkRead(t, "a prefix", b[:n], payloads[:whole], position)
		}
	}
}

type named struct {
	name string
	b    []byte
}

// notFrames begin with no frame, though with what is almost one.
func notFrames() []named {
	five := noise(5, 1)
	sum := sumWant(five)
	reversed := int(binary.BigEndian.Uint32(binary.LittleEndian.AppendUint32(nil, uint32(sum))))
	return []named{
		{"a length without an end", []byte{128}},
		{"a length of 65536 without an end", []byte{128, 128}},
		{"nine digits without an end", bytes.Repeat([]byte{255}, 9)},
		{"a length with a last digit 0", framed([]byte{133, 0}, five, sum)},
		{"no byte, with a length of 128, 0", framed([]byte{128, 0}, nil, 0)},
		{"a tenth digit 2", framed(append(bytes.Repeat([]byte{255}, 9), 2), five, sum)},
		{"a length of 2^63", framed(append(bytes.Repeat([]byte{128}, 9), 1), five, sum)},
		{"a length of 2^64 - 1", framed(append(bytes.Repeat([]byte{255}, 9), 1), five, sum)},
		{"a length of 2^63 - 1", framed(num.PutLen(nil, math.MaxInt), five, sum)},
		{"a length whose end overflows", framed(num.PutLen(nil, math.MaxInt-12), five, sum)},
		{"a length of 2^32", framed(num.PutLen(nil, 1<<32), nil, 0)},
		{"65537 bytes", frameWant(make([]byte, api.MaxPayload+1))},
		{"200000 bytes", frameWant(make([]byte, 200000))},
		{"65536 bytes that are not there", framed([]byte{128, 128, 4}, five, sum)},
		{"the length alone", []byte{5}},
		{"a payload that ends too soon", append([]byte{5}, five[:4]...)},
		{"no checksum", append([]byte{5}, five...)},
		{"a checksum without its last byte", frameWant(five)[:9]},
		{"a length too small", framed([]byte{4}, five, sum)},
		{"a length too great", framed([]byte{6}, five, sum)},
		{"a checksum of 0", framed([]byte{5}, five, 0)},
		{"a checksum greater by 1", framed([]byte{5}, five, sum+1)},
		{"a checksum with bytes reversed", framed([]byte{5}, five, reversed)},
		{"a checksum not complemented", framed([]byte{5}, five, ^sum)},
		{"a checksum of the length too", framed([]byte{5}, five, sumWant(append([]byte{5}, five...)))},
		{"a checksum of less of the payload", framed([]byte{5}, five, sumWant(five[:4]))},
		{"a checksum of no byte that is 1", framed([]byte{0}, nil, 1)},
		{"another payload's checksum", framed([]byte{5}, five, sumWant(noise(5, 2)))},
	}
}

func TestReadStopsWhereThereIsNoFrame(t *testing.T) {
	ahead := [][]byte{noise(3, 3), nil, noise(200, 4)}
	b, _ := joined(t, ahead)
	for _, c := range notFrames() {
		checkRead(t, c.name, c.b, nil, 0)
		checkRead(t, c.name+", behind frames", append(bytes.Clone(b), c.b...), ahead, len(b))
	}
}

func TestReadTakesNoFrameBehindAWrongOne(t *testing.T) {
	ahead := [][]byte{noise(3, 3), noise(200, 4)}
	b, ends := joined(t, [][]byte{ahead[0], ahead[1], noise(4, 5), noise(4, 6)})
	wrong := bytes.Clone(b)
	wrong[ends[1]+3] ^= 1
	checkRead(t, "a wrong frame between others", wrong, ahead, ends[1])
}

func TestReadOfEveryWrongBit(t *testing.T) {
	payloads := [][]byte{noise(3, 7), noise(130, 8), noise(6, 9)}
	b, ends := joined(t, payloads)
	for bit := range len(b) * 8 {
		wrong := bytes.Clone(b)
		wrong[bit/8] ^= 1 << (bit % 8)
		whole := slices.IndexFunc(ends, func(end int) bool { return bit/8 < end })
		position := 0
		if whole > 0 {
			position = ends[whole-1]
		}
		checkRead(t, "a wrong bit", wrong, payloads[:whole], position)
	}
}

func TestReadWhateverFollows(t *testing.T) {
	payloads := [][]byte{noise(3, 7), nil, noise(130, 8)}
	b, _ := joined(t, payloads)
	for _, after := range [][]byte{{0}, {0, 0, 0, 0}, {1}, {255}, {0, 1, 2, 3, 4, 5}, bytes.Repeat([]byte{255}, 300)} {
		checkRead(t, "bytes behind frames", append(bytes.Clone(b), after...), payloads, len(b))
	}
}

func TestReadOfManyFrames(t *testing.T) {
	payloads := make([][]byte, 20000)
	for i := range payloads {
		payloads[i] = noise(i%7, i)
	}
	b, _ := joined(t, payloads)
	checkRead(t, "many frames", b, payloads, len(b))
}

// checkModel holds Read of any bytes against the model, and against Seal.
func checkModel(t *testing.T, b []byte) {
	t.Helper()
	was := bytes.Clone(b)
	payloads, position := readWant(b)
	checkRead(t, "the model", b, payloads, position)
	again, _ := joined(t, payloads)
	if !bytes.Equal(again, b[:position]) || !bytes.Equal(b, was) {
		t.Fatalf("frames of what Read returns of %v: %v", was, again)
	}
}

// The bytes are such that frames of 0 and 1 bytes are among the strings.
func TestReadOfAllStringsOfSomeBytes(t *testing.T) {
	some := []byte{0, 1, 0x8D, 0xEF, 0x02, 0xD2}
	work := [][]byte{nil}
	for from := 0; from < len(work); from++ {
		b := work[from]
		checkModel(t, b)
		if len(b) == 7 {
			continue
		}
		for _, c := range some {
			work = append(work, append(bytes.Clone(b), c))
		}
	}
}

func TestArgumentsAreNeitherChangedNorShared(t *testing.T) {
	array := bytes.Repeat([]byte{77}, 40)
	payload := array[:3]
	b, _ := Seal(payload)
	Sum(payload)
	if !bytes.Equal(array, bytes.Repeat([]byte{77}, 40)) {
		t.Fatalf("Seal or Sum changes its argument's array to %v", array)
	}
	want := frameWant(payload)
	payload[0] = 1
	if !bytes.Equal(b, want) {
		t.Fatalf("Seal shares its argument: %v", b)
	}
	again, _ := Seal([]byte{77, 77, 77})
	b = b[:cap(b)]
	for i := range b {
		b[i] = 5
	}
	if !bytes.Equal(again, want) || payload[1] != 77 {
		t.Fatalf("a change of a frame changes %v or %v", again, payload)
	}
}

func TestPayloadsAreNotShared(t *testing.T) {
	b, _ := joined(t, [][]byte{{1, 2}, {}, {3, 4, 5}, {6}})
	was := bytes.Clone(b)
	payloads, _ := Read(b)
	kept, _ := Read(b)
	for i := range b {
		b[i] = 99
	}
	want := [][]byte{{1, 2}, {}, {3, 4, 5}, {6}}
	if !slices.EqualFunc(payloads, want, bytes.Equal) {
		t.Fatalf("a change of the argument changes the payloads to %v", payloads)
	}
	copy(b, was)
	for i := range payloads {
		all := payloads[i][:cap(payloads[i])]
		for k := range all {
			all[k] = 88
		}
		if !slices.EqualFunc(payloads[i+1:], want[i+1:], bytes.Equal) {
			t.Fatalf("a change of payload %d changes those behind it to %v", i, payloads[i+1:])
		}
	}
	if !bytes.Equal(b, was) || !slices.EqualFunc(kept, want, bytes.Equal) {
		t.Errorf("a change of the payloads changes %v or %v", b, kept)
	}
}

func TestFramesEndWhenNoMoreAreWanted(t *testing.T) {
	seen := 0
	for range eachFrame(make([]byte, 20)) {
		if seen++; seen == 2 {
			break
		}
	}
	if seen != 2 {
		t.Errorf("%d frames", seen)
	}
}

func FuzzRead(f *testing.F) {
	f.Add([]byte{0, 0, 0, 0, 0, 1, 0, 0x8D, 0xEF, 0x02, 0xD2})
	f.Add(frameWant(noise(130, 1)))
	for _, c := range notFrames() {
		f.Add(c.b)
	}
	f.Fuzz(func(t *testing.T, b []byte) { checkModel(t, b) })
}
