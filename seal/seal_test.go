package seal_test

import (
	"bytes"
	"encoding/hex"
	"hash/crc32"
	"math/rand"
	"strings"
	"testing"

	"flotilla/api"
	"flotilla/seal"
)

// unhex makes bytes of hexadecimal text; blanks part them for the eye alone.
func unhex(t *testing.T, text string) []byte {
	t.Helper()
	b, err := hex.DecodeString(strings.ReplaceAll(text, " ", ""))
	if err != nil {
		t.Fatal(err)
	}
	return b
}

// sealed is the datagram of a payload that may be.
func sealed(t *testing.T, payload []byte) []byte {
	t.Helper()
	b, e := seal.Seal(payload)
	if e != api.OK {
		t.Fatalf("Seal refuses %d bytes: %d", len(payload), e)
	}
	return b
}

// some are bytes of some length.
func some(x *rand.Rand, size int) []byte {
	b := make([]byte, size)
	x.Read(b)
	return b
}

// crc is another one's sum in four bytes, the lowest first.
func crc(b []byte) []byte {
	n := crc32.Checksum(b, crc32.MakeTable(crc32.Castagnoli))
	return []byte{byte(n), byte(n >> 8), byte(n >> 16), byte(n >> 24)}
}

// headOf is what P2.2 says of the head of a payload of so many bytes, also of lengths that may not be.
func headOf(size int) []byte {
	b := []byte{0x46, 0x4c, byte(size), byte(size >> 8), byte(size >> 16)}
	return append(b, crc(b)...)
}

// datagramOf is what P2.2 says of a payload's datagram.
func datagramOf(payload []byte) []byte {
	return append(append(headOf(len(payload)), payload...), crc(payload)...)
}

func refuses(t *testing.T, name string, b []byte, want api.Errno) {
	t.Helper()
	if p, e := seal.Open(b); e != want || len(p) != 0 {
		t.Errorf("%s: Open answers %d bytes, %d; want none, %d", name, len(p), e, want)
	}
}

func TestP2_1Sum(t *testing.T) {
	for _, c := range []struct {
		of   []byte
		want uint32
	}{
		{nil, 0},
		{[]byte{}, 0},
		{[]byte("123456789"), 0xe3069283},
		{make([]byte, 32), 0x8a9136aa},
		{bytes.Repeat([]byte{0xff}, 32), 0x62a8ab43},
	} {
		if got := seal.Sum(c.of); got != c.want {
			t.Errorf("Sum(% x) is %08x, want %08x", c.of, got, c.want)
		}
	}
}

// bitwise is P2.1 word by word.
func bitwise(b []byte) uint32 {
	register := uint32(0xffffffff)
	for _, c := range b {
		for i := range 8 {
			out := register&1 != uint32(c)>>i&1
			register >>= 1
			if out {
				register ^= 0x82f63b78
			}
		}
	}
	return ^register
}

func TestP2_1SumBitByBit(t *testing.T) {
	x := rand.New(rand.NewSource(1))
	for c := range 256 {
		b := []byte{byte(c)}
		if got := seal.Sum(b); got != bitwise(b) {
			t.Errorf("Sum(%02x) is %08x, want %08x", c, got, bitwise(b))
		}
	}
	for range 2000 {
		b := some(x, x.Intn(200))
		if got := seal.Sum(b); got != bitwise(b) {
			t.Fatalf("Sum(% x) is %08x, want %08x", b, got, bitwise(b))
		}
	}
}

func TestP2_2Datagram(t *testing.T) {
	for _, c := range []struct{ payload, want string }{
		{"", "46 4c 00 00 00 81 70 84 c4 00 00 00 00"},
		{"abc", "46 4c 03 00 00 f2 b0 aa 2e 61 62 63 b7 3f 4b 36"},
		{"a", "46 4c 01 00 00 ff e2 c5 61 61 30 43 d0 c1"},
	} {
		if b := sealed(t, []byte(c.payload)); !bytes.Equal(b, unhex(t, c.want)) {
			t.Errorf("Seal(%q) is % x, want %s", c.payload, b, c.want)
		}
	}
	x := rand.New(rand.NewSource(2))
	for _, size := range []int{0, 1, 2, 255, 256, 257, 65535, 65536} {
		payload := some(x, size)
		if b := sealed(t, payload); !bytes.Equal(b, datagramOf(payload)) || len(b) != size+13 {
			t.Errorf("the datagram of %d bytes is another one", size)
		}
	}
}

func TestP2_3TooLong(t *testing.T) {
	for _, size := range []int{65537, 65538, 1 << 20, 1<<24 + 1} {
		if b, e := seal.Seal(make([]byte, size)); e != api.ErrSealLong || len(b) != 0 {
			t.Errorf("Seal of %d bytes: %d bytes, %d", size, len(b), e)
		}
	}
	if b, e := seal.Seal(make([]byte, 65536)); e != api.OK || len(b) != 65549 {
		t.Errorf("Seal of 65536 bytes: %d bytes, %d", len(b), e)
	}
}

func TestP2_4Refused(t *testing.T) {
	long := headOf(65537)
	longest := headOf(1<<24 - 1)
	for _, c := range []struct {
		name string
		b    []byte
		want api.Errno
	}{
		{"nothing", nil, api.ErrSealShort},
		{"no bytes", []byte{}, api.ErrSealShort},
		{"46", unhex(t, "46"), api.ErrSealShort},
		{"47", unhex(t, "47"), api.ErrSealMark},
		{"4c", unhex(t, "4c"), api.ErrSealMark},
		{"46 4c", unhex(t, "46 4c"), api.ErrSealShort},
		{"46 4d", unhex(t, "46 4d"), api.ErrSealMark},
		{"47 4c", unhex(t, "47 4c"), api.ErrSealMark},
		{"4c 46", unhex(t, "4c 46"), api.ErrSealMark},
		{"a wrong mark ahead of few bytes", unhex(t, "46 46 00"), api.ErrSealMark},
		{"a wrong mark ahead of a wrong sum", unhex(t, "00 4c 00 00 00 00 00 00 00"), api.ErrSealMark},
		{"eight bytes", headOf(0)[:8], api.ErrSealShort},
		{"eight bytes of a wrong sum", unhex(t, "46 4c 00 00 00 00 00 00"), api.ErrSealShort},
		{"eight bytes of a length that may not be", long[:8], api.ErrSealShort},
		{"a head alone", headOf(0), api.ErrSealShort},
		{"a wrong sum of the head", unhex(t, "46 4c 00 00 00 81 70 84 c5"), api.ErrSealSum},
		{"a wrong sum of a length that may not be", unhex(t, "46 4c 01 00 01 00 00 00 00"), api.ErrSealSum},
		{"a wrong sum of the head, and bytes behind", unhex(t, "46 4c 00 00 00 81 70 84 c5 00 00 00 00 00"), api.ErrSealSum},
		{"a length that may not be", long, api.ErrSealLong},
		{"a length that may not be, whole", append(long, make([]byte, 65541)...), api.ErrSealLong},
		{"a length that may not be, with more", append(long, make([]byte, 65560)...), api.ErrSealLong},
		{"the greatest length", longest, api.ErrSealLong},
		{"the length 65536, its head alone", headOf(65536), api.ErrSealShort},
		{"too few, of a wrong sum", append(headOf(1), 1, 2, 3, 4), api.ErrSealShort},
		{"too many, of a wrong sum", append(headOf(0), 1, 2, 3, 4, 5), api.ErrSealSize},
		{"a wrong sum of the payload", append(headOf(0), 0, 0, 0, 1), api.ErrSealSum},
		{"a wrong sum of the longest payload", append(headOf(65536), make([]byte, 65540)...), api.ErrSealSum},
		{"the length turned", unhex(t, "46 4c 04 00 00 f2 b0 aa 2e 61 62 63 b7 3f 4b 36"), api.ErrSealSum},
		{"the payload turned", unhex(t, "46 4c 03 00 00 f2 b0 aa 2e 62 62 63 b7 3f 4b 36"), api.ErrSealSum},
	} {
		refuses(t, c.name, c.b, c.want)
	}
}

func TestP2_5ThereAndBack(t *testing.T) {
	x := rand.New(rand.NewSource(5))
	sizes := []int{0, 1, 2, 3, 4, 255, 256, 65535, 65536}
	for range 300 {
		sizes = append(sizes, x.Intn(400))
	}
	for _, size := range sizes {
		payload := some(x, size)
		if p, e := seal.Open(sealed(t, payload)); e != api.OK || !bytes.Equal(p, payload) {
			t.Errorf("%d bytes come back as %d, %d", size, len(p), e)
		}
	}
}

func TestP2_5OneForm(t *testing.T) {
	x := rand.New(rand.NewSource(55))
	right := 0
	for range 5000 {
		b := datagramOf(some(x, x.Intn(20)))
		for range x.Intn(3) {
			b[x.Intn(len(b))] = byte(x.Intn(256))
		}
		p, e := seal.Open(b)
		if e != api.OK {
			continue
		}
		right++
		if again := sealed(t, p); !bytes.Equal(again, b) {
			t.Errorf("% x is opened, and sealed as % x", b, again)
		}
	}
	if right == 0 {
		t.Error("nothing was opened")
	}
}

func TestP2_5FewerAndMore(t *testing.T) {
	x := rand.New(rand.NewSource(56))
	for _, size := range []int{0, 1, 3, 40, 300} {
		b := sealed(t, some(x, size))
		for cut := range b {
			refuses(t, "a beginning", b[:cut], api.ErrSealShort)
		}
		for _, more := range [][]byte{{0}, {0x46}, b, some(x, 5), make([]byte, 70000)} {
			refuses(t, "more behind it", append(bytes.Clone(b), more...), api.ErrSealSize)
		}
	}
	b := sealed(t, some(x, 65536))
	for _, cut := range []int{9, 10, 65544, 65545, 65548} {
		refuses(t, "a beginning of the longest", b[:cut], api.ErrSealShort)
	}
	refuses(t, "more behind the longest", append(b, 0), api.ErrSealSize)
}

func TestP2_6EveryTurnWithinAByte(t *testing.T) {
	for _, payload := range []string{"", "a", "abc", strings.Repeat("xyz", 30)} {
		whole := sealed(t, []byte(payload))
		for at := range whole {
			want := api.ErrSealSum
			if at < 2 {
				want = api.ErrSealMark
			}
			for turn := 1; turn < 256; turn++ {
				b := bytes.Clone(whole)
				b[at] ^= byte(turn)
				refuses(t, "a turned byte", b, want)
			}
		}
	}
}

// turned turns bits of which the first and the last lie at most 31 apart; bit n is in the byte n / 8, from the lowest on.
func turned(x *rand.Rand, b []byte) {
	start, span := x.Intn(8*len(b)), x.Uint32()
	span >>= x.Intn(32)
	span |= 1
	for i := range 32 {
		if at := start + i; span>>i&1 == 1 && at < 8*len(b) {
			b[at/8] ^= 1 << (at % 8)
		}
	}
}

func TestP2_6TurnsWithin32Bits(t *testing.T) {
	x := rand.New(rand.NewSource(6))
	for range 60000 {
		b := sealed(t, some(x, x.Intn(30)))
		which := x.Intn(3)
		if which != 0 {
			turned(x, b[:9])
		}
		if which != 1 {
			turned(x, b[9:])
		}
		if p, e := seal.Open(b); e == api.OK || len(p) != 0 {
			t.Fatalf("% x was turned, and is opened: % x, %d", b, p, e)
		}
	}
}

func TestP2_6TurnsInTheLongest(t *testing.T) {
	x := rand.New(rand.NewSource(66))
	whole := sealed(t, some(x, 65536))
	for range 100 {
		b := bytes.Clone(whole)
		turned(x, b[9:])
		refuses(t, "the longest, turned", b, api.ErrSealSum)
	}
}

// roomy is the same bytes with spare room behind them, which is not to be written to.
func roomy(b []byte) []byte {
	all := bytes.Repeat([]byte{0xee}, len(b)+64)
	copy(all, b)
	return all[:len(b)]
}

// untouched tells whether bytes of roomy are as they were, the spare room too.
func untouched(b, was []byte) bool {
	spare := b[len(b):cap(b)]
	return bytes.Equal(b, was) && bytes.Count(spare, []byte{0xee}) == len(spare)
}

// scribble writes over a list and its spare room.
func scribble(b []byte) {
	b = b[:cap(b)]
	for i := range b {
		b[i] ^= 0xff
	}
}

func TestP2_11MemoryOfDatagrams(t *testing.T) {
	payload := []byte("payload of its own")
	datagram := datagramOf(payload)
	in, sealedIn := roomy(payload), roomy(datagram)
	first, second := sealed(t, in), sealed(t, in)
	scribble(first)
	if !untouched(in, payload) || !bytes.Equal(second, datagram) {
		t.Error("what was written to a datagram is seen elsewhere")
	}
	scribble(in)
	if !bytes.Equal(second, datagram) {
		t.Error("what was written to a payload is seen in its datagram")
	}
	one, _ := seal.Open(sealedIn)
	two, _ := seal.Open(sealedIn)
	scribble(one)
	if !untouched(sealedIn, datagram) || !bytes.Equal(two, payload) {
		t.Error("what was written to an opened payload is seen elsewhere")
	}
	scribble(sealedIn)
	if !bytes.Equal(two, payload) {
		t.Error("what was written to a datagram is seen in its payload")
	}
	summed := roomy(payload)
	if seal.Sum(summed); !untouched(summed, payload) {
		t.Error("Sum has changed what it was given")
	}
}
