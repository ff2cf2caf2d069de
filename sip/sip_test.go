package sip_test

import (
	"bytes"
	"math/big"
	"math/rand"
	"slices"
	"strings"
	"sync"
	"testing"

	"outrider/sip"
)

// known says the hashes of the bytes 00 01 02 .. of each length from 0 to 64, by the key 00 01 .. 0f,
// as OpenSSL's SIPHASH tells them: so a word of the chapter that was read wrongly both in the package
// and in the plain reading below is seen.
var known = []uint64{
	0x726fdb47dd0e0e31, 0x74f839c593dc67fd, 0x0d6c8009d9a94f5a, 0x85676696d7fb7e2d,
	0xcf2794e0277187b7, 0x18765564cd99a68d, 0xcbc9466e58fee3ce, 0xab0200f58b01d137,
	0x93f5f5799a932462, 0x9e0082df0ba9e4b0, 0x7a5dbbc594ddb9f3, 0xf4b32f46226bada7,
	0x751e8fbc860ee5fb, 0x14ea5627c0843d90, 0xf723ca908e7af2ee, 0xa129ca6149be45e5,
	0x3f2acc7f57c29bdb, 0x699ae9f52cbe4794, 0x4bc1b3f0968dd39c, 0xbb6dc91da77961bd,
	0xbed65cf21aa2ee98, 0xd0f2cbb02e3b67c7, 0x93536795e3a33e88, 0xa80c038ccd5ccec8,
	0xb8ad50c6f649af94, 0xbce192de8a85b8ea, 0x17d835b85bbb15f3, 0x2f2e6163076bcfad,
	0xde4daaaca71dc9a5, 0xa6a2506687956571, 0xad87a3535c49ef28, 0x32d892fad841c342,
	0x7127512f72f27cce, 0xa7f32346f95978e3, 0x12e0b01abb051238, 0x15e034d40fa197ae,
	0x314dffbe0815a3b4, 0x027990f029623981, 0xcadcd4e59ef40c4d, 0x9abfd8766a33735c,
	0x0e3ea96b5304a7d0, 0xad0c42d6fc585992, 0x187306c89bc215a9, 0xd4a60abcf3792b95,
	0xf935451de4f21df2, 0xa9538f0419755787, 0xdb9acddff56ca510, 0xd06c98cd5c0975eb,
	0xe612a3cb9ecba951, 0xc766e62cfcadaf96, 0xee64435a9752fe72, 0xa192d576b245165a,
	0x0a8787bf8ecb74b2, 0x81b3e73d20b49b6f, 0x7fa8220ba3b2ecea, 0x245731c13ca42499,
	0xb78dbfaf3a8d83bd, 0xea1ad565322a1a0b, 0x60e61c23a3795013, 0x6606d7e446282b93,
	0x6ca4ecb15c5f91e1, 0x9f626da15c9625f3, 0xe51b38608ef25f57, 0x958a324ceb064572,
	0xacd2c40b8502cad8,
}

var texts = []string{
	"",
	"a",
	"ab",
	"backend-1",
	"\x00",
	"\x00\x00",
	"a\x00b",
	"\x7f\x80\x81",
	"\u00e9\u65e5\u672c", // 8 bytes, 3 runes
	"\U0001f40e",
	"\ufffd",              // what a reader of runes takes wrong bytes for
	"\xff\xfe\x80",        // no right UTF-8, from here on
	"\x80",                // a byte that goes on, alone
	"\xc3",                // its second byte is not there
	"\xc3(",               // its second byte is another one
	"\xc0\x80",            // a longer way to say 0
	"\xed\xa0\x80",        // half of a pair
	"\xf4\x90\x80\x80",    // beyond the last rune
	"abc\xffdefghijk\xe6", // in the midst, and at the end
	strings.Repeat("\xff", 300),
}

// plainSum says what P7.1 says, in numbers without limits: the tests hold the package against it. The
// bytes are laid in one piece with what is behind them, and then taken eight by eight.
func plainSum(k sip.Key, b []byte) uint64 {
	all := bytes.Clone(b)
	for len(all)%8 != 7 {
		all = append(all, 0)
	}
	all = append(all, byte(len(b)%256))

	x, y := plainNumber(k[:8]), plainNumber(k[8:])
	var v [4]*big.Int
	for at, text := range []string{"736f6d6570736575", "646f72616e646f6d", "6c7967656e657261", "7465646279746573"} {
		v[at], _ = new(big.Int).SetString(text, 16)
		if at%2 == 0 {
			v[at].Xor(v[at], x)
		} else {
			v[at].Xor(v[at], y)
		}
	}
	for eight := range slices.Chunk(all, 8) {
		m := plainNumber(eight)
		v[3].Xor(v[3], m)
		plainRound(&v)
		plainRound(&v)
		v[0].Xor(v[0], m)
	}
	v[2].Xor(v[2], big.NewInt(255))
	plainRound(&v)
	plainRound(&v)
	plainRound(&v)
	plainRound(&v)
	answer := new(big.Int)
	for _, n := range v {
		answer.Xor(answer, n)
	}
	return answer.Uint64()
}

func plainNumber(b []byte) *big.Int {
	b = bytes.Clone(b)
	slices.Reverse(b)
	return new(big.Int).SetBytes(b)
}

func plainRound(v *[4]*big.Int) {
	beyond := new(big.Int).Lsh(big.NewInt(1), 64)
	add := func(to, from int) {
		v[to].Add(v[to], v[from])
		v[to].Mod(v[to], beyond)
	}
	turn := func(at int, by uint) {
		v[at].Lsh(v[at], by)
		over, low := new(big.Int).DivMod(v[at], beyond, new(big.Int))
		v[at].Add(low, over)
	}
	xor := func(to, from int) { v[to].Xor(v[to], v[from]) }
	add(0, 1)
	turn(1, 13)
	xor(1, 0)
	turn(0, 32)
	add(2, 3)
	turn(3, 16)
	xor(3, 2)
	add(0, 3)
	turn(3, 21)
	xor(3, 0)
	add(2, 1)
	turn(1, 17)
	xor(1, 2)
	turn(2, 32)
}

// counting is the bytes 00 01 02 .., and behind ff again 00.
func counting(many int) []byte {
	b := make([]byte, many)
	for at := range b {
		b[at] = byte(at)
	}
	return b
}

func countingKey() sip.Key {
	return sip.Key(counting(16))
}

func keyOf(one byte) sip.Key {
	return sip.Key(bytes.Repeat([]byte{one}, 16))
}

// otherBits is the key of which all bits are turned.
func otherBits(k sip.Key) sip.Key {
	var other sip.Key
	for at, one := range k {
		other[at] = 0xff - one
	}
	return other
}

func keys() []sip.Key {
	first, second := keyOf(0), keyOf(0)
	copy(first[:8], counting(8))
	copy(second[8:], counting(8))
	return []sip.Key{countingKey(), keyOf(0), keyOf(0xff), otherBits(countingKey()), first, second}
}

// someBytes leans to 0 and ff.
func someBytes(r *rand.Rand, many int) []byte {
	b := make([]byte, many)
	r.Read(b)
	lean := r.Intn(4)
	for at := range b {
		if lean < 2 && r.Intn(2) == 0 {
			b[at] = byte(-lean)
		}
	}
	return b
}

func checkSum(t *testing.T, what string, k sip.Key, b []byte) {
	t.Helper()
	if got, want := sip.Sum(k, b), plainSum(k, b); got != want {
		t.Errorf("P7.1: %s: Sum(%x, %x): %x, not %x", what, k, b, got, want)
	}
}

func TestExamples(t *testing.T) {
	k := countingKey()
	for _, x := range []struct {
		b    []byte
		want uint64
	}{
		{nil, 0x726fdb47dd0e0e31},
		{[]byte{}, 0x726fdb47dd0e0e31},
		{[]byte{0}, 0x74f839c593dc67fd},
		{[]byte{0, 1, 2, 3, 4, 5, 6, 7, 8, 9, 10, 11, 12, 13, 14}, 0xa129ca6149be45e5},
	} {
		if got := sip.Sum(k, x.b); got != x.want {
			t.Errorf("P7.1: Sum(%x, %x): %x, not %x", k, x.b, got, x.want)
		}
	}
}

func TestEachLength(t *testing.T) {
	k := countingKey()
	if len(known) != 65 {
		t.Fatal("lengths:", len(known))
	}
	for many, want := range known {
		b := counting(many)
		if got := sip.Sum(k, b); got != want {
			t.Errorf("P7.1: Sum(%x, %x): %x, not %x", k, b, got, want)
		}
		if got := plainSum(k, b); got != want {
			t.Errorf("the plain reading of %x: %x, not %x", b, got, want)
		}
		if got := sip.Text(k, string(b)); got != want {
			t.Errorf("P7.2: Text(%x, %x): %x, not %x", k, b, got, want)
		}
	}
	for _, k := range keys() {
		for many := range 65 {
			checkSum(t, "each length", k, counting(many))
		}
	}
}

// The answers are OpenSSL's.
func TestLengthsThatGoBeyond255(t *testing.T) {
	for _, x := range []struct {
		many                int
		k                   sip.Key
		zeros, ffs, counted uint64
	}{
		{255, countingKey(), 0x91c97abab4cdbf56, 0x0a13f5bfc90d46c4, 0xa9c169fec74db21a},
		{255, keyOf(0), 0x8b21238d5527793f, 0xed6ad001220f838e, 0x893cc0a3c6b6cc38},
		{255, keyOf(0xff), 0x6b30a7d3c1f5b672, 0xb6da527cf0f604e3, 0x6b7375786d64f023},
		{256, countingKey(), 0x7408248d2694d61c, 0xa7eafdce7eaf859f, 0x999d0526d2a7bfd7},
		{256, keyOf(0), 0x80d978d6fa417c1e, 0x3d1256410bf214a1, 0x9d3b1c289668a3d1},
		{256, keyOf(0xff), 0x90dad0fb812baea8, 0xc1774ddffc4ff77e, 0xae6222ca85b72680},
		{257, countingKey(), 0x95b2db4c59428646, 0x7954351b0a747ab1, 0x8a817b8d55b29748},
		{257, keyOf(0), 0x2d0244227390b43d, 0x638e4604e867face, 0xe8398ddcd9729e96},
		{257, keyOf(0xff), 0xc70fea7105b10b4f, 0xf4ba1291607478ee, 0x62c6d61ed89a5f2b},
	} {
		for _, y := range []struct {
			b    []byte
			want uint64
		}{
			{make([]byte, x.many), x.zeros},
			{bytes.Repeat([]byte{0xff}, x.many), x.ffs},
			{counting(x.many), x.counted},
		} {
			if got := sip.Sum(x.k, y.b); got != y.want {
				t.Errorf("P7.1: Sum(%x, %x), of %d bytes: %x, not %x", x.k, y.b, x.many, got, y.want)
			}
		}
	}
}

func TestNoBytes(t *testing.T) {
	for _, x := range []struct {
		k    sip.Key
		want uint64
	}{
		{countingKey(), 0x726fdb47dd0e0e31},
		{keyOf(0), 0x1e924b9d737700d7},
		{keyOf(0xff), 0x35dd279ee86ce565},
	} {
		for _, b := range [][]byte{nil, {}, make([]byte, 0, 64), counting(64)[:0], counting(64)[9:9]} {
			if got := sip.Sum(x.k, b); got != x.want {
				t.Errorf("P7.1: Sum(%x, no bytes): %x, not %x", x.k, got, x.want)
			}
		}
		if got := sip.Text(x.k, ""); got != x.want {
			t.Errorf("P7.2: Text(%x, no text): %x, not %x", x.k, got, x.want)
		}
	}
}

func TestEdges(t *testing.T) {
	longs := []int{0, 1, 6, 7, 8, 9, 14, 15, 16, 17, 23, 24, 25, 127, 128, 129, 247, 248, 249, 254, 255, 256, 257, 263, 264, 265, 511, 512, 513, 767, 768, 1000}
	for _, many := range longs {
		for _, k := range keys() {
			checkSum(t, "bytes all 00", k, make([]byte, many))
			checkSum(t, "bytes all ff", k, bytes.Repeat([]byte{0xff}, many))
			checkSum(t, "bytes all 80", k, bytes.Repeat([]byte{0x80}, many))
			checkSum(t, "counting", k, counting(many))
		}
	}
	for _, many := range []int{65535, 65536, 65537} {
		checkSum(t, "counting", countingKey(), counting(many))
	}
}

// Bytes 0 at the end are bytes, too: how many there are is to be seen in the answer.
func TestZerosAreNotNone(t *testing.T) {
	for _, k := range keys() {
		was := map[uint64]int{}
		for many := range 600 {
			got := sip.Sum(k, make([]byte, many))
			if other, ok := was[got]; ok {
				t.Errorf("P7.1: by %x %d and %d bytes 0 have one hash", k, other, many)
			}
			was[got] = many
		}
	}
}

func TestOneBitOfTheKey(t *testing.T) {
	for _, b := range [][]byte{nil, counting(1), counting(7), counting(8), counting(15), counting(40)} {
		for _, k := range keys() {
			was := sip.Sum(k, b)
			for bit := range 128 {
				other := k
				other[bit/8] ^= 1 << (bit % 8)
				checkSum(t, "one bit of the key", other, b)
				if sip.Sum(other, b) == was {
					t.Errorf("P7.1: Sum(%x, %x) is that of the key %x, too", k, b, other)
				}
			}
		}
	}
}

func TestOneBitOfTheBytes(t *testing.T) {
	for _, k := range []sip.Key{countingKey(), keyOf(0)} {
		for many := range 34 {
			for _, b := range [][]byte{counting(many), make([]byte, many), bytes.Repeat([]byte{0xff}, many)} {
				was := sip.Sum(k, b)
				for bit := range 8 * many {
					other := bytes.Clone(b)
					other[bit/8] ^= 1 << (bit % 8)
					checkSum(t, "one bit of the bytes", k, other)
					if sip.Sum(k, other) == was {
						t.Errorf("P7.1: Sum(%x, %x) is that of %x, too", k, b, other)
					}
				}
			}
		}
	}
}

func TestMany(t *testing.T) {
	r := rand.New(rand.NewSource(1))
	for range 10000 {
		k := sip.Key(someBytes(r, 16))
		b := someBytes(r, r.Intn(70))
		checkSum(t, "some", k, b)
		checkText(t, k, string(b))
	}
	for range 300 {
		checkSum(t, "some long ones", sip.Key(someBytes(r, 16)), someBytes(r, r.Intn(2000)))
	}
}

func checkText(t *testing.T, k sip.Key, s string) {
	t.Helper()
	got := sip.Text(k, s)
	if want := plainSum(k, []byte(s)); got != want {
		t.Errorf("P7.2: Text(%x, %q): %x, not %x", k, s, got, want)
	}
	if want := sip.Sum(k, []byte(s)); got != want {
		t.Errorf("P7.2: Text(%x, %q): %x, but Sum of its bytes: %x", k, s, got, want)
	}
}

func TestText(t *testing.T) {
	for _, k := range keys() {
		for _, s := range texts {
			checkText(t, k, s)
		}
		for one := range 256 {
			checkText(t, k, string([]byte{byte(one)}))
			checkText(t, k, "text"+string([]byte{byte(one)})+"text")
		}
		for many := range 300 {
			checkText(t, k, strings.Repeat("x", many))
		}
	}
}

func TestNumber(t *testing.T) {
	for _, x := range []struct {
		n    uint64
		want sip.Key
	}{
		{0, sip.Key{}},
		{1, sip.Key{1, 0, 0, 0, 0, 0, 0, 0, 0, 0, 0, 0, 0, 0, 0, 0}},
		{255, sip.Key{255, 0, 0, 0, 0, 0, 0, 0, 0, 0, 0, 0, 0, 0, 0, 0}},
		{256, sip.Key{0, 1, 0, 0, 0, 0, 0, 0, 0, 0, 0, 0, 0, 0, 0, 0}},
		{1<<32 - 1, sip.Key{255, 255, 255, 255, 0, 0, 0, 0, 0, 0, 0, 0, 0, 0, 0, 0}},
		{1 << 32, sip.Key{0, 0, 0, 0, 1, 0, 0, 0, 0, 0, 0, 0, 0, 0, 0, 0}},
		{1<<63 - 1, sip.Key{255, 255, 255, 255, 255, 255, 255, 127, 0, 0, 0, 0, 0, 0, 0, 0}},
		{1 << 63, sip.Key{0, 0, 0, 0, 0, 0, 0, 128, 0, 0, 0, 0, 0, 0, 0, 0}},
		{1<<64 - 1, sip.Key{255, 255, 255, 255, 255, 255, 255, 255, 0, 0, 0, 0, 0, 0, 0, 0}},
		{0x0123456789abcdef, sip.Key{0xef, 0xcd, 0xab, 0x89, 0x67, 0x45, 0x23, 0x01, 0, 0, 0, 0, 0, 0, 0, 0}},
	} {
		got := sip.Number(x.n)
		for at := range got {
			if got[at] != x.want[at] {
				t.Errorf("P7.2: Number(%x): byte %d is %x, not %x", x.n, at, got[at], x.want[at])
			}
		}
	}
	for at := range 8 {
		for one := range 256 {
			var want sip.Key
			want[at] = byte(one)
			n := new(big.Int).Lsh(big.NewInt(int64(one)), uint(8*at)).Uint64()
			if got := sip.Number(n); got != want {
				t.Errorf("P7.2: Number(%x): %x, not %x", n, got, want)
			}
		}
	}
}

// Number's bytes are the ones that Sum reads as its first number.
func TestNumberAsAKey(t *testing.T) {
	for _, n := range []uint64{0, 1, 256, 1 << 63, 1<<64 - 1, 0x0123456789abcdef} {
		checkSum(t, "a number's key", sip.Number(n), counting(20))
	}
	if sip.Sum(sip.Number(1), nil) == sip.Sum(sip.Number(256), nil) {
		t.Error("P7.2: 1 and 256 are one key")
	}
}

// The answers are OpenSSL's.
func TestTwoOfSome(t *testing.T) {
	k := countingKey()
	for _, x := range []struct {
		s           string
		one, second uint64
	}{
		{"", 0x726fdb47dd0e0e31, 0x717ff0ee65f7b1ef},
		{"a", 0x2ba3e8e9a71148ca, 0x72951ae2fd4b3f39},
		{"backend-1", 0x4cab7f385b70b565, 0x5c03e3dbaa06ec2c},
		{"\u00e9\u65e5\u672c", 0x431050321c821628, 0x4311f4ade9b2fcf5},
		{"\xff\xfe\x80", 0x1378ac8f7c529585, 0xa5e5d172a283b9c4},
		{"\x00", 0x74f839c593dc67fd, 0x636ede9f4fe6370a},
	} {
		if one, second := sip.Two(k, x.s); one != x.one || second != x.second {
			t.Errorf("P7.2: Two(%x, %q): %x and %x, not %x and %x", k, x.s, one, second, x.one, x.second)
		}
		if one, second := sip.Two(otherBits(k), x.s); one != x.second || second != x.one {
			t.Errorf("P7.2: Two(%x, %q): %x and %x, not %x and %x", otherBits(k), x.s, one, second, x.second, x.one)
		}
	}
}

func TestTwo(t *testing.T) {
	for _, k := range append(keys(), sip.Number(1), sip.Number(1<<63)) {
		for _, s := range texts {
			other := otherBits(k)
			was := k
			one, second := sip.Two(k, s)
			if one != plainSum(k, []byte(s)) || second != plainSum(other, []byte(s)) {
				t.Errorf("P7.2: Two(%x, %q): %x and %x", k, s, one, second)
			}
			if one != sip.Text(k, s) || second != sip.Text(other, s) {
				t.Errorf("P7.2: Two(%x, %q) is not what Text tells: %x and %x", k, s, one, second)
			}
			if x, y := sip.Two(other, s); x != second || y != one {
				t.Errorf("P7.2: Two(%x, %q), the key turned: %x and %x, not %x and %x", other, s, x, y, second, one)
			}
			if k != was {
				t.Errorf("P7.2: Two changed its key %x to %x", was, k)
			}
		}
	}
}

// What stands behind the bytes in the same array, or ahead of them, is nothing to Sum, and stays.
func TestWhatStandsBeside(t *testing.T) {
	k := countingKey()
	for many := range 40 {
		want := plainSum(k, counting(many))
		for _, ahead := range []int{0, 1, 3, 8} {
			for _, beside := range []byte{0, 1, 0x80, 0xff} {
				array := bytes.Repeat([]byte{beside}, ahead+many+24)
				copy(array[ahead:], counting(many))
				was := bytes.Clone(array)
				for _, b := range [][]byte{array[ahead : ahead+many], array[ahead : ahead+many : ahead+many]} {
					if got := sip.Sum(k, b); got != want {
						t.Errorf("P7.3: Sum(%x, %x) with bytes %x beside: %x, not %x", k, b, beside, got, want)
					}
				}
				if !bytes.Equal(array, was) {
					t.Errorf("P7.3: Sum changed %x to %x", was, array)
				}
			}
		}
	}
}

// Other calls between two alike ones, and the same bytes in another list, change no answer.
func TestAlikeAgain(t *testing.T) {
	r := rand.New(rand.NewSource(2))
	for range 1000 {
		k, b := sip.Key(someBytes(r, 16)), someBytes(r, r.Intn(50))
		was, want := bytes.Clone(b), sip.Sum(k, b)
		for range 3 {
			if got := sip.Sum(k, b); got != want {
				t.Errorf("P7.3: Sum(%x, %x) again: %x, not %x", k, b, got, want)
			}
			sip.Sum(sip.Key(someBytes(r, 16)), someBytes(r, r.Intn(50)))
			sip.Two(k, string(someBytes(r, r.Intn(50))))
			sip.Sum(otherBits(k), b)
			if got := sip.Sum(k, bytes.Clone(was)); got != want {
				t.Errorf("P7.3: Sum(%x, %x) in another list: %x, not %x", k, was, got, want)
			}
		}
		if !bytes.Equal(b, was) {
			t.Errorf("P7.3: Sum changed %x to %x", was, b)
		}
	}
}

// A list that is written into later was not kept.
func TestBytesAreNotKept(t *testing.T) {
	k, b := countingKey(), counting(20)
	sip.Sum(k, b)
	for at := range b {
		b[at] = 0xee
		checkSum(t, "written into", k, b)
	}
}

func TestManyAtOnce(t *testing.T) {
	var all sync.WaitGroup
	for n := range 8 {
		all.Go(func() {
			k := sip.Number(uint64(n))
			b := counting(10 * n)
			want := plainSum(k, b)
			for range 2000 {
				if got := sip.Sum(k, b); got != want {
					t.Errorf("P7.3: Sum(%x, %x) beside others: %x, not %x", k, b, got, want)
					return
				}
			}
		})
	}
	all.Wait()
}
