package syncwire_test

import (
	"bytes"
	"crypto/sha256"
	"encoding/binary"
	"encoding/hex"
	"fmt"
	"math"
	"math/rand"
	"slices"
	"strings"
	"sync"
	"testing"

	"outrider/api"
	"outrider/syncwire"
)

// top is the greatest Session and Number that the chapter allows.
const top = 1 << 62

const (
	four1 = api.Addr("\x0a\x00\x00\x01")
	four2 = api.Addr("\xc0\xa8\x07\xc8")
	six1  = api.Addr("\xfe\x80\x00\x00\x00\x00\x00\x00\x00\x00\x00\x00\x00\x01\x02\x03")
	six2  = api.Addr("0123456789abcdef")
)

// Two ordinary records, one of each kind.
var (
	four = syncwire.Record{Flow: api.Flow{Proto: api.Tcp, From: four1, To: four2, Port: 0x1234, Dest: 80}, Backend: 3, State: 2, Left: 900}
	six  = syncwire.Record{Flow: api.Flow{Proto: api.Udp, From: six1, To: six2, Port: 53, Dest: 0xfedc}, Backend: 15, State: 4, Left: 0x7fff}
)

// far is numbers that are far off from all that may be.
var far = []int{
	math.MinInt, math.MinInt + 1, -1 << 62, -1 << 33, -1 << 32, -1<<32 + 4, -1 << 31, -65536, -65535, -257, -256, -255, -100, -16, -4, -2,
	70000, 1 << 20, 1<<31 - 1, 1 << 31, 1<<32 - 1, 1 << 32, 1<<32 + 1, 1<<32 + 4, 1 << 33, 1<<61 + 3,
}

// farther is numbers beyond 2^62, too.
var farther = []int{top + 2, top + 4, top + 1<<20, top + 1<<61, math.MaxInt - 1, math.MaxInt}

// part is a number of a record, with what the chapter says that it may be.
type part struct {
	name            string
	least, greatest int
	of              func(r *syncwire.Record) *int
}

func parts() []part {
	return []part{
		{"Proto", 0, 255, func(r *syncwire.Record) *int { return &r.Flow.Proto }},
		{"Port", 0, 65535, func(r *syncwire.Record) *int { return &r.Flow.Port }},
		{"Dest", 0, 65535, func(r *syncwire.Record) *int { return &r.Flow.Dest }},
		{"Backend", 0, 15, func(r *syncwire.Record) *int { return &r.Backend }},
		{"State", 1, 4, func(r *syncwire.Record) *int { return &r.State }},
		{"Left", 0, 65535, func(r *syncwire.Record) *int { return &r.Left }},
	}
}

// with is the record with another number for one part.
func with(r syncwire.Record, p part, number int) syncwire.Record {
	*p.of(&r) = number
	return r
}

// between is the record with other addresses.
func between(r syncwire.Record, from, to api.Addr) syncwire.Record {
	r.Flow.From, r.Flow.To = from, to
	return r
}

// long is an address of so many bytes, right or not.
func long(many int) api.Addr {
	return api.Addr(strings.Repeat("\x7f\x04\x10\x00\xff", many/5+1)[:many])
}

// plainRight is what the chapter says of a record.
func plainRight(r syncwire.Record) bool {
	f := r.Flow
	byOne := int(uint8(f.Proto)) == f.Proto
	byTwo := int(uint16(f.Port)) == f.Port && int(uint16(f.Dest)) == f.Dest && int(uint16(r.Left)) == r.Left
	addrs := [2]int{len(f.From), len(f.To)}
	kind := addrs == [2]int{4, 4} || addrs == [2]int{16, 16}
	state := r.State == 1 || r.State == 2 || r.State == 3 || r.State == 4
	return byOne && byTwo && kind && state && r.Backend&^15 == 0
}

// plainRecord is the bytes of a right record, in hexadecimal.
func plainRecord(r syncwire.Record) string {
	f := r.Flow
	return fmt.Sprintf("%02x%02x%x%x%04x%04x%02x%02x%04x", f.Proto, len(f.From), string(f.From), string(f.To), f.Port, f.Dest, r.Backend, r.State, r.Left)
}

// plainBytes is the bytes of a batch, whether it is one or not, as far as its numbers have room.
func plainBytes(session, number uint64, many int, l []syncwire.Record) []byte {
	text := fmt.Sprintf("5301%016x%016x%02x", session, number, many)
	for _, r := range l {
		text += plainRecord(r)
	}
	b, err := hex.DecodeString(text)
	if err != nil {
		panic(err)
	}
	return b
}

// plainEncode is what the chapter says of Encode.
func plainEncode(b syncwire.Batch) ([]byte, api.Errno) {
	if b.Session < 0 || b.Session > top || b.Number < 1 || b.Number > top || len(b.L) < 1 || len(b.L) > 64 {
		return nil, api.ErrSyncForm
	}
	for _, r := range b.L {
		if !plainRight(r) {
			return nil, api.ErrSyncForm
		}
	}
	told := plainBytes(uint64(b.Session), uint64(b.Number), len(b.L), b.L)
	if len(told) > 1400 {
		return nil, api.ErrSyncForm
	}
	return told, api.OK
}

// plainAnswer is what the chapter says of EncodeAnswer.
func plainAnswer(a syncwire.Answer) ([]byte, api.Errno) {
	if a.Session < 0 || a.Session > top || a.Number < 0 || a.Number > top {
		return nil, api.ErrSyncForm
	}
	return plainAnswerBytes(uint64(a.Session), uint64(a.Number), map[bool]byte{false: 0, true: 1}[a.Gap], a.Refused), api.OK
}

// plainAnswerBytes is the bytes of an answer, whether it is one or not.
func plainAnswerBytes(session, number uint64, gap byte, refused uint64) []byte {
	b, err := hex.DecodeString(fmt.Sprintf("4101%016x%016x%02x%016x", session, number, gap, refused))
	if err != nil {
		panic(err)
	}
	return b
}

// The shapes of what is written, by which it is read here.
type (
	head struct {
		Mark, Version   uint8
		Session, Number uint64
		Many            uint8
	}
	begin struct {
		Proto, Long uint8
	}
	fourAddrs struct {
		From, To [4]byte
	}
	sixAddrs struct {
		From, To [16]byte
	}
	end struct {
		Port, Dest     uint16
		Backend, State uint8
		Left           uint16
	}
	answer struct {
		Mark, Version   uint8
		Session, Number uint64
		Gap             uint8
		Refused         uint64
	}
)

// fill reads the next bytes into a shape, and tells whether there are so many.
func fill(r *bytes.Reader, shape any) bool {
	return binary.Read(r, binary.BigEndian, shape) == nil
}

// plainDecode is what the chapter says of Decode: each part is read in its turn, and asked.
func plainDecode(b []byte) (syncwire.Batch, api.Errno) {
	r, h, told := bytes.NewReader(b), head{}, syncwire.Batch{}
	if len(b) > 1400 || !fill(r, &h) || h.Mark != 0x53 || h.Version != 1 {
		return syncwire.Batch{}, api.ErrSyncForm
	}
	if h.Session > top || h.Number > top || h.Number == 0 || h.Many == 0 || h.Many > 64 {
		return syncwire.Batch{}, api.ErrSyncForm
	}
	told.Session, told.Number = int(h.Session), int(h.Number)
	for range h.Many {
		record, ok := plainDecodeRecord(r)
		if !ok {
			return syncwire.Batch{}, api.ErrSyncForm
		}
		told.L = append(told.L, record)
	}
	if r.Len() > 0 {
		return syncwire.Batch{}, api.ErrSyncForm
	}
	return told, api.OK
}

func plainDecodeRecord(r *bytes.Reader) (syncwire.Record, bool) {
	a, z, record := begin{}, end{}, syncwire.Record{}
	if !fill(r, &a) {
		return record, false
	}
	switch a.Long {
	case 4:
		x := fourAddrs{}
		if !fill(r, &x) {
			return record, false
		}
		record.Flow.From, record.Flow.To = api.Addr(x.From[:]), api.Addr(x.To[:])
	case 16:
		x := sixAddrs{}
		if !fill(r, &x) {
			return record, false
		}
		record.Flow.From, record.Flow.To = api.Addr(x.From[:]), api.Addr(x.To[:])
	default:
		return record, false
	}
	if !fill(r, &z) || z.Backend > 15 || z.State < 1 || z.State > 4 {
		return record, false
	}
	record.Flow.Proto, record.Flow.Port, record.Flow.Dest = int(a.Proto), int(z.Port), int(z.Dest)
	record.Backend, record.State, record.Left = int(z.Backend), int(z.State), int(z.Left)
	return record, true
}

// plainDecodeAnswer is what the chapter says of DecodeAnswer.
func plainDecodeAnswer(b []byte) (syncwire.Answer, api.Errno) {
	x := answer{}
	if len(b) != 27 || !fill(bytes.NewReader(b), &x) || x.Mark != 0x41 || x.Version != 1 {
		return syncwire.Answer{}, api.ErrSyncForm
	}
	if x.Session > top || x.Number > top || x.Gap > 1 {
		return syncwire.Answer{}, api.ErrSyncForm
	}
	return syncwire.Answer{Session: int(x.Session), Number: int(x.Number), Gap: x.Gap == 1, Refused: x.Refused}, api.OK
}

// plainRoom is what the chapter says of Room: the most records whose bytes all fit.
func plainRoom(l []syncwire.Record) int {
	for many := min(len(l), 64); many > 0; many-- {
		sum := 2 + 8 + 8 + 1
		for _, r := range l[:many] {
			sum += 10 + len(r.Flow.From) + len(r.Flow.To)
		}
		if sum <= 1400 {
			return many
		}
	}
	return 0
}

func sameBatch(one, other syncwire.Batch) bool {
	return one.Session == other.Session && one.Number == other.Number && slices.Equal(one.L, other.L)
}

// batch is an ordinary one of these records.
func batch(l ...syncwire.Record) syncwire.Batch {
	return syncwire.Batch{Session: 5, Number: 258, L: l}
}

// encoded is the bytes of a batch that is one.
func encoded(t *testing.T, b syncwire.Batch) []byte {
	t.Helper()
	told, errno := syncwire.Encode(b)
	if errno != api.OK {
		t.Fatalf("P14.1: Encode of a right batch answers %d", errno)
	}
	return told
}

// checkEncode holds Encode against the plain reading; and where it is OK, Decode of what it tells (P14.4).
func checkEncode(t *testing.T, name string, b syncwire.Batch) {
	t.Helper()
	told, errno := syncwire.Encode(b)
	want, wantErrno := plainEncode(b)
	if errno != wantErrno || !bytes.Equal(told, want) {
		t.Errorf("P14.1: Encode, %s: %x %d, not %x %d", name, told, errno, want, wantErrno)
		return
	}
	if errno != api.OK {
		return
	}
	again, errno := syncwire.Decode(told)
	if errno != api.OK || !sameBatch(again, b) {
		t.Errorf("P14.4: %s: Decode of what Encode told is %v %d, not %v", name, again, errno, b)
	}
}

// checkDecode holds Decode against the plain reading; and where it is OK, Encode of what it tells.
func checkDecode(t *testing.T, name string, b []byte) {
	t.Helper()
	told, errno := syncwire.Decode(b)
	want, wantErrno := plainDecode(b)
	if errno != wantErrno || !sameBatch(told, want) {
		t.Errorf("P14.1: Decode, %s, of %x: %v %d, not %v %d", name, b, told, errno, want, wantErrno)
		return
	}
	if errno != api.OK {
		return
	}
	again, errno := syncwire.Encode(told)
	if errno != api.OK || !bytes.Equal(again, b) {
		t.Errorf("P14.1: %s: what was decoded of %x is written again as %x %d", name, b, again, errno)
	}
}

// checkEncodeAnswer and checkDecodeAnswer are likewise of answers.
func checkEncodeAnswer(t *testing.T, name string, a syncwire.Answer) {
	t.Helper()
	told, errno := syncwire.EncodeAnswer(a)
	want, wantErrno := plainAnswer(a)
	if errno != wantErrno || !bytes.Equal(told, want) {
		t.Errorf("P14.2: EncodeAnswer, %s: %x %d, not %x %d", name, told, errno, want, wantErrno)
		return
	}
	if errno != api.OK {
		return
	}
	if again, errno := syncwire.DecodeAnswer(told); errno != api.OK || again != a {
		t.Errorf("P14.4: %s: DecodeAnswer of what EncodeAnswer told is %v %d, not %v", name, again, errno, a)
	}
}

func checkDecodeAnswer(t *testing.T, name string, b []byte) {
	t.Helper()
	told, errno := syncwire.DecodeAnswer(b)
	want, wantErrno := plainDecodeAnswer(b)
	if errno != wantErrno || told != want {
		t.Errorf("P14.2: DecodeAnswer, %s, of %x: %v %d, not %v %d", name, b, told, errno, want, wantErrno)
		return
	}
	if errno != api.OK {
		return
	}
	if again, errno := syncwire.EncodeAnswer(told); errno != api.OK || !bytes.Equal(again, b) {
		t.Errorf("P14.2: %s: what was decoded of %x is written again as %x %d", name, b, again, errno)
	}
}

// notEncoded asks that a batch is refused, whatever the plain reading says.
func notEncoded(t *testing.T, name string, b syncwire.Batch) {
	t.Helper()
	if told, errno := syncwire.Encode(b); errno != api.ErrSyncForm || len(told) != 0 {
		t.Errorf("P14.1: Encode, %s: %x %d, not ErrSyncForm", name, told, errno)
	}
}

// isEncoded asks that a batch is taken, and that it is what its bytes are.
func isEncoded(t *testing.T, name string, b syncwire.Batch) {
	t.Helper()
	told, errno := syncwire.Encode(b)
	if errno != api.OK || len(told) == 0 {
		t.Errorf("P14.1: Encode, %s: %x %d, not OK", name, told, errno)
	}
	checkEncode(t, name, b)
}

// notDecoded asks that bytes are refused by both that read.
func notDecoded(t *testing.T, name string, b []byte) {
	t.Helper()
	if told, errno := syncwire.Decode(b); errno != api.ErrSyncForm || told.Session != 0 || told.Number != 0 || len(told.L) != 0 {
		t.Errorf("P14.1: Decode, %s, of %x: %v %d, not ErrSyncForm", name, b, told, errno)
	}
	if told, errno := syncwire.DecodeAnswer(b); errno != api.ErrSyncForm || told != (syncwire.Answer{}) {
		t.Errorf("P14.2: DecodeAnswer, %s, of %x: %v %d, not ErrSyncForm", name, b, told, errno)
	}
}

// unhex is the bytes of a text in hexadecimal, with spaces for who reads it.
func unhex(text string) []byte {
	b, err := hex.DecodeString(strings.ReplaceAll(text, " ", ""))
	if err != nil {
		panic(err)
	}
	return b
}

// several is a batch's records, of which the kinds take turns.
func several(many int) []syncwire.Record {
	l := []syncwire.Record{}
	for i := range many {
		r := four
		if i%3 == 1 {
			r = six
		}
		r.Flow.Port, r.Left = i*257, 65535-i
		l = append(l, r)
	}
	return l
}

// places are the first, a middle and the last one of so many.
func places(many int) []int {
	return slices.Compact([]int{0, many / 2, many - 1})
}

// put is the bytes with another one at a place.
func put(b []byte, at int, to byte) []byte {
	b = slices.Clone(b)
	b[at] = to
	return b
}

func TestExamples(t *testing.T) {
	b, errno := syncwire.Encode(syncwire.Batch{Session: 1, Number: 1, L: []syncwire.Record{four}})
	if errno != api.OK || len(b) != 37 {
		t.Errorf("P14.1: a batch of one record with addresses of 4 bytes has %d bytes (%d), not 37", len(b), errno)
	}
	if a, errno := syncwire.DecodeAnswer([]byte{0x41, 1}); errno != api.ErrSyncForm || a != (syncwire.Answer{}) {
		t.Errorf("P14.2: DecodeAnswer of 41 01 is %v %d", a, errno)
	}
	if api.ErrSyncForm != 140 || api.MaxBatch != 64 || api.MaxBackends != 16 {
		t.Error("P14.1: the numbers that the chapter leans on are others")
	}
}

func TestByHand(t *testing.T) {
	for _, x := range []struct {
		b    syncwire.Batch
		want string
	}{
		{syncwire.Batch{Number: 1, L: []syncwire.Record{{Flow: api.Flow{From: "\x00\x00\x00\x00", To: "\x00\x00\x00\x00"}, State: 1}}},
			"53 01 0000000000000000 0000000000000001 01  00 04 00000000 00000000 0000 0000 00 01 0000"},
		{syncwire.Batch{Session: 0x0102030405060708, Number: 0x1112131415161718, L: []syncwire.Record{four}},
			"53 01 0102030405060708 1112131415161718 01  06 04 0a000001 c0a807c8 1234 0050 03 02 0384"},
		{syncwire.Batch{Session: top, Number: top, L: []syncwire.Record{six, four}},
			"53 01 4000000000000000 4000000000000000 02" +
				"11 10 fe800000000000000000000000010203 30313233343536373839616263646566 0035 fedc 0f 04 7fff" +
				"06 04 0a000001 c0a807c8 1234 0050 03 02 0384"},
		{syncwire.Batch{Session: 255, Number: 256, L: []syncwire.Record{{Flow: api.Flow{Proto: 255, From: "\xff\xfe\xfd\xfc", To: "\xfb\xfa\xf9\xf8", Port: 65535, Dest: 65534}, Backend: 15, State: 3, Left: 65535}}},
			"53 01 00000000000000ff 0000000000000100 01  ff 04 fffefdfc fbfaf9f8 ffff fffe 0f 03 ffff"},
	} {
		b, errno := syncwire.Encode(x.b)
		if errno != api.OK || !bytes.Equal(b, unhex(x.want)) {
			t.Errorf("P14.1: Encode is %x %d, not %s", b, errno, x.want)
		}
		if told, errno := syncwire.Decode(unhex(x.want)); errno != api.OK || !sameBatch(told, x.b) {
			t.Errorf("P14.1: Decode of %s is %v %d", x.want, told, errno)
		}
	}
	for _, x := range []struct {
		a    syncwire.Answer
		want string
	}{
		{syncwire.Answer{}, "41 01 0000000000000000 0000000000000000 00 0000000000000000"},
		{syncwire.Answer{Gap: true}, "41 01 0000000000000000 0000000000000000 01 0000000000000000"},
		{syncwire.Answer{Session: 0x0102030405060708, Number: 0x1112131415161718, Refused: 0xf1f2f3f4f5f6f7f8}, "41 01 0102030405060708 1112131415161718 00 f1f2f3f4f5f6f7f8"},
		{syncwire.Answer{Session: top, Number: top - 1, Gap: true, Refused: 1<<63 | 2}, "41 01 4000000000000000 3fffffffffffffff 01 8000000000000002"},
		{syncwire.Answer{Session: 1, Number: top, Refused: math.MaxUint64}, "41 01 0000000000000001 4000000000000000 00 ffffffffffffffff"},
	} {
		b, errno := syncwire.EncodeAnswer(x.a)
		if errno != api.OK || !bytes.Equal(b, unhex(x.want)) {
			t.Errorf("P14.2: EncodeAnswer is %x %d, not %s", b, errno, x.want)
		}
		if told, errno := syncwire.DecodeAnswer(unhex(x.want)); errno != api.OK || told != x.a {
			t.Errorf("P14.2: DecodeAnswer of %s is %v %d", x.want, told, errno)
		}
	}
}

// known is bytes in hexadecimal, and what they are.
type known struct {
	bytes, is string
}

// knownSum is how many bytes there are, and their SHA-256.
type knownSum struct {
	fours, sixes, many int
	sum                string
}

// knownBatches are bytes, and the batch that they are, as a reading of the chapter in another language tells it.
var knownBatches = []known{
	{"53011f9b930bf0baef3a000000000000eee902ff04b2a8eddee748c6e6a19dffff00010e3ace10e7377be5762a879bdd3a2a182c6962dfa39c0fa4c298d7af010cdbe258538d1c0000f92706013e0b", "2277575716058623802 61161; 255 b2a8edde e748c6e6 41373 65535 0 1 3642; 206 e7377be5762a879bdd3a2a182c6962df a39c0fa4c298d7af010cdbe258538d1c 0 63783 6 1 15883"},
	{"53014000000000000000000000000000000102c50444013d4f7180207cdfc483440704889800106323f558147eb0b5bd4cc4912d10325eb1366bf016549678f74377436fb5085b000000000001002f", "4611686018427387904 1; 197 44013d4f 7180207c 57284 33604 7 4 34968; 0 6323f558147eb0b5bd4cc4912d10325e b1366bf016549678f74377436fb5085b 0 0 0 1 47"},
	{"53010000000000000000000000000000000101ff10fdca353562ed9a9a39a91cae4e9fc9ead878ff54708a974a969baeb8ae70f7c2ffffbba10701dbdb", "0 1; 255 fdca353562ed9a9a39a91cae4e9fc9ea d878ff54708a974a969baeb8ae70f7c2 65535 48033 7 1 56283"},
	{"53012b728d7ac607987c40000000000000000148044fdfad7cdc688772000036750f01ffff", "3130720249423829116 4611686018427387904; 72 4fdfad7c dc688772 0 13941 15 1 65535"},
	{"530100000000000000003409330f93f0580d0200105bf89ffeb0b71cae7d3843a461db27efd5c6dfa54a72dd8a980bbbd2edc6c418000000000004e638fd04539bcd146697aff88afa000000049634", "0 3749584306762176525; 0 5bf89ffeb0b71cae7d3843a461db27ef d5c6dfa54a72dd8a980bbbd2edc6c418 0 0 0 4 58936; 253 539bcd14 6697aff8 35578 0 0 4 38452"},
	{"5301204c91eb077d7c000000000000006eba0123046041b79333ee7562800d0f8107040000", "2327395546072710144 28346; 35 6041b793 33ee7562 32781 3969 7 4 0"},
	{"5301000000000000000040000000000000000326108bddfc75883beeb06942d933502c73626f45771b5ef73a9a208f235d239b14796fa500000f0300009d04fcd698a245a1bb4bffff00000404ffffab046b55421ccdede403148effff0f030000", "0 4611686018427387904; 38 8bddfc75883beeb06942d933502c7362 6f45771b5ef73a9a208f235d239b1479 28581 0 15 3 0; 157 fcd698a2 45a1bb4b 65535 0 4 4 65535; 171 6b55421c cdede403 5262 65535 15 3 0"},
	{"5301000000000000693a000000000000ba3001ff1074a4cbe6fdcb31f366fd311b6dd1302247f715796c75288ec7a58a7833cd2451c5953e790e010000", "26938 47664; 255 74a4cbe6fdcb31f366fd311b6dd13022 47f715796c75288ec7a58a7833cd2451 50581 15993 14 1 0"},
	{"530140000000000000004000000000000000022204938182a02d2dcf5760f54e6a0f02ffff00104552ee3b8f56913a72739e0228735f3247f170bdb19055aca05fc1a834c9e2c59ecd7b6500018c0e", "4611686018427387904 4611686018427387904; 34 938182a0 2d2dcf57 24821 20074 15 2 65535; 0 4552ee3b8f56913a72739e0228735f32 47f170bdb19055aca05fc1a834c9e2c5 40653 31589 0 1 35854"},
	{"53010000000000004d560000000000003f9903a6049950a1511e6e734a0000ffff0604000079107b5bf6177c56698281a0339a7681549278070a35ea4645c4a2c965a827c871bdd7aeb84408040935ff10952a91789b83c9edd0c2c8052a3cec0dec906a23ad179b6947820ba41a7aceecffffffff00010000", "19798 16281; 166 9950a151 1e6e734a 0 65535 6 4 0; 121 7b5bf6177c56698281a0339a76815492 78070a35ea4645c4a2c965a827c871bd 55214 47172 8 4 2357; 255 952a91789b83c9edd0c2c8052a3cec0d ec906a23ad179b6947820ba41a7aceec 65535 65535 0 1 0"},
	{"53014000000000000000000000000000000102001079c01ba05e189d8add97ea7a91135a0528efd2e61e7641da3cf06a0deea07e06ffff00000002fffff3102e479331d61e36e1d4b9757c059070ad42106dbf20f825c90101423769361d83ffffffff02045ceb", "4611686018427387904 1; 0 79c01ba05e189d8add97ea7a91135a05 28efd2e61e7641da3cf06a0deea07e06 65535 0 0 2 65535; 243 2e479331d61e36e1d4b9757c059070ad 42106dbf20f825c90101423769361d83 65535 65535 2 4 23787"},
	{"530100000000000000004000000000000000010004ca1bb187f6d44cc1abccffff0f02ccad", "0 4611686018427387904; 0 ca1bb187 f6d44cc1 43980 65535 15 2 52397"},
	{"530100000000000015f40000000000003ba602aa10e58019a59ab669bfcb77f6390bf4864f223390de2493d1d201f65c3712b80dd5a493ea270f0300008b04752ba1a58e83b2f0c31500000f02c6ab", "5620 15270; 170 e58019a59ab669bfcb77f6390bf4864f 223390de2493d1d201f65c3712b80dd5 42131 59943 15 3 0; 139 752ba1a5 8e83b2f0 49941 0 15 2 50859"},
	{"5301000000000001002e000000000000777201e504cc1d3ddb1825d8cc9fcedc000e04d132", "65582 30578; 229 cc1d3ddb 1825d8cc 40910 56320 14 4 53554"},
	{"530100000000000000004000000000000000010004777753f690b43eb8ffff79a00f010e15", "0 4611686018427387904; 0 777753f6 90b43eb8 65535 31136 15 1 3605"},
	{"53014000000000000000000000000000a09602530459abab438ddc957d721d961900040000ef0499dd4bff6e2a92a5ffffbe9100040000", "4611686018427387904 41110; 83 59abab43 8ddc957d 29213 38425 0 4 0; 239 99dd4bff 6e2a92a5 65535 48785 0 4 0"},
	{"5301000000000000", "refused"},
	{"530140000000000000001a097f68b4b5ea6902ff0448b33e0cd0e7a9357100000f03ffff0004b0cc2d6bed7a7b35cf2500000004a4fa", "refused"},
	{"53010000000000006e3c00000000000000010100040b1a4e1b54e0aa8e0000f0db0002ffff", "28220 1; 0 0b1a4e1b 54e0aa8e 0 61659 0 2 65535"},
	{"53010000000000000000400000000002000002a704238bccee9ca9c295af9900000b042a46ff04cb6bbaa957b278a85d6bffff0104ffff", "refused"},
	{"5301000000000000f0e3400000000000000002f904b69c5c95344597600000c7330f02bc88ff041c7afb284ea18074ffff480c0f024374054166", "refused"},
	{"5301000000000000ec304000000010000000026204fe52c515125186ece7a8000006011602ef046d8f4d65e24bfd86ffff346b0604ca52", "refused"},
	{"532d0591230ee3840b225f8a669ef1de7901760469e98230a3cfdc2c14ec86fa00020000", "refused"},
	{"53014000000000000000000001000000d53f02b1048519944b3b9657706ec800000a0401702504bfa8ddba5fe022a918c98efb00019d23", "4611686018427387904 1099511682367; 177 8519944b 3b965770 28360 0 10 4 368; 37 bfa8ddba 5fe022a9 6345 36603 0 1 40227"},
	{"53012f127061394fc9db0000000000000001020004aa1b08e5b9c22b0bffffffff00010000510472051125c84d6513ffffffff0f01ff", "refused"},
	{"53014000000000000000256310ae1253", "refused"},
	{"530121d4fe72a4c2e84e000000000000000101ba04f61a4bbabfc91632fc3000000b01000066bdaf", "refused"},
	{"53011b1919337a111a64000000000000000102160458dddaf7c532460effffffff00010000ff048c88a4969074b557ea74ffff0504e260", "1952619622323788388 1; 22 58dddaf7 c532460e 65535 65535 0 1 0; 255 8c88a496 9074b557 60020 65535 5 4 57952"},
	{"5301000000000000000009a9489bb6d53028020004d6da52d002899061ffff85b706dffdff0472cf6cc6528276410000ffff0f020000", "refused"},
	{"5301000000000000dac8000000000000e0160100047d1e263304552a1dbf02ffff0f04eb96", "56008 57366; 0 7d1e2633 04552a1d 48898 65535 15 4 60310"},
	{"5301000000000000000000400000000000000001b204733ec18c8ba47661c3f37eb40f037f08", "refused"},
	{"53014000000000000000400200000000000002ff04b872b63300616647ffff0000000400005c045a95e5b5ee2fe589ffffffff0a01ffff", "refused"},
	{"53010000000000000000000000000000000101ff047510f810e4ae5d329777ffff0003f7ff", "0 1; 255 7510f810 e4ae5d32 38775 65535 0 3 63487"},
	{"53014000000000000000400000000000000001ff04cec53f1eee144370ff9b00000f02ffffcc84e2", "refused"},
	{"5301400000000000000000000000000000010200048de851b0b00e86bc000000000704e6b70004380abb1fffbb6e69ba28ffff07010000", "4611686018427387904 1; 0 8de851b0 b00e86bc 0 0 7 4 59063; 0 380abb1f ffbb6e69 47656 65535 7 1 0"},
	{"53010000000000006c401555a41946cf6b0402000426c83d0fa942b27b6ce61129000400000004a99ed511ebe8147972000009012f6b", "refused"},
	{"530102a5e36103217d84000000000000000829018004c080dbe27aaf1ceaffffffff0c049625", "refused"},
	{"530100000000000088e2000000000000a68002ff04b458b0713c2b1deda8d81be500010000ff04368bf0a89faafae4ffffffff03039e8c", "35042 42624; 255 b458b071 3c2b1ded 43224 7141 0 1 0; 255 368bf0a8 9faafae4 65535 65535 3 3 40588"},
	{"530107312ecc8e7d84c5400000000000000001ff04d8a675bbe0f313dd6b7cffff0f0313", "refused"},
	{"53010000000000000000", "refused"},
	{"530100000000000000004000000400000000000150042ba164cb45885e574dc311d70f0145f0", "refused"},
	{"53010000000000000000000000000000cbba02ef041409e85becffa2a5ac1700000f010000d9fd6658b71347f39a1bcb1e48010207e9", "refused"},
	{"530100000000000000004000000000000000016e04b9f2838aae74f5d73dde23840001ffff7f", "refused"},
	{"530100000000000000002f187b687d1c474f02ff04d7ee6fe605eb47a662e8ffff0004ffff000449d7355e97dba914ee52ffff02010000", "0 3393598007929489231; 255 d7ee6fe6 05eb47a6 25320 65535 0 4 65535; 0 49d7355e 97dba914 61010 65535 2 1 0"},
	{"530119a3f601b028ea0917000000000000000101ff0409c4d8d5662b302d000000000f04ffff", "refused"},
	{"530100000000000078ac000000000000000102d50484d5ee5153c0867efffffe7d0f02822ea704336302dcc0651b42ffff22930601ffffb0dd41", "refused"},
	{"53014000000000000000000000000000000101000458bf59642c6027285aedffff0004c0da729e8b", "refused"},
	{"530137935294a5ad4a2f34005141aadd3f210100047d7ef2", "refused"},
}

// knownAnswers are likewise of answers.
var knownAnswers = []known{
	{"410140000000000000004000000000000000008000000000000000", "4611686018427387904 4611686018427387904 false 9223372036854775808"},
	{"41012e79732f64b0c4ac000000000000000001ffffffffffffffff", "3348834445316637868 0 true 18446744073709551615"},
	{"41010000000000010ef60000000000000000018000000000000000", "69366 0 true 9223372036854775808"},
	{"410140000000000000004000000000000000008000000000000000", "4611686018427387904 4611686018427387904 false 9223372036854775808"},
	{"410100000000000065d300000000000039c1000000000000000000", "26067 14785 false 0"},
	{"4101000000000000629f0000000000000000000000000000000001", "25247 0 false 1"},
	{"410140000000000000000000000000004cd600ffffffffffffffff", "4611686018427387904 19670 false 18446744073709551615"},
	{"41010000000000000000000000000000432901ffffffffffffffff", "0 17193 true 18446744073709551615"},
	{"41014000000000000000302e32660ada78df01ffffffffffffffff", "4611686018427387904 3471767776599374047 true 18446744073709551615"},
	{"4101000000000000f9fa13cb2b9495e39ac0018000000000000000", "63994 1426281624162769600 true 9223372036854775808"},
	{"41012e368c5c6e126e400000000000003e73018000000000000000", "3330003303098641984 15987 true 9223372036854775808"},
	{"41010000000000000000400000000000000001ffffffffffffff10", "0 4611686018427387904 true 18446744073709551376"},
	{"410140000000000000000000000000000000000000010000000000", "4611686018427387904 0 false 1099511627776"},
	{"410100000000000020c600000000003c56010000000000000000", "refused"},
	{"410100000000000097064000000000000000008000000000000000", "38662 4611686018427387904 false 9223372036854775808"},
	{"4101338c198427b58a000000000000000000ffffffffffffffff", "refused"},
	{"410100000000000000002662cdafaf2b067f008000040000000000", "0 2765999275600709247 false 9223376434901286912"},
	{"41010729ff13b2bdc9314000000000000000000000000000000001", "516224092378876209 4611686018427387904 false 1"},
	{"41012aa3e19e5b0acd5940", "refused"},
	{"4101301b6149d5855aac2e492137803d7eb001ffffffffffffffff", "3466471307934522028 3335233521302994608 true 18446744073709551615"},
	{"4101400000000000000013f004e3db3b4aed010000000000000010", "4611686018427387904 1436653657813371629 true 16"},
	{"410140000000000000004000000000000000013f6420f55f2804f4a5", "refused"},
	{"410100000000000000004000000000000000010000000000000000dc6db7", "refused"},
	{"4101400000000000000000000000000000000000000000000001", "refused"},
	{"410140000000000000000000", "refused"},
	{"410100000000000100aea3115140b87c0ea43001f4144126f5e245ac", "refused"},
	{"41010000000000007c8f0000000000004bd700ffffffffffffffff", "31887 19415 false 18446744073709551615"},
	{"410120fe1b63e5a8251d1de57ef76253bc6500e6c40832f9174f62", "2377367769166914845 2154267597738327141 false 16628424739179155298"},
	{"410100000000000000400000000000000000ffffffffffffffff", "refused"},
	{"4101000000000000ce83142630792f9bb8f001000000000000000001", "refused"},
}

// knownLong is how many bytes a batch of such records as made tells has, first those of the first kind, and the SHA-256 of these, by the same reading.
var knownLong = []knownSum{
	{1, 0, 37, "ad3ddce38c19d436a620ea8da7aa39bab7745bb5fea9e3ed99eebd0f99ee950a"},
	{0, 1, 61, "77e4bcb584d0529c2fb694f325a1adbc73b056cb658446e5f0fc1b66675cc4db"},
	{64, 0, 1171, "150109223f49239384b6c248026bdbb37fb4754641725ca04aa9ddd67b68f346"},
	{0, 32, 1363, "f1dacd3ce1b12cfe20cbfcb954b92fd49294d9eb7560c4fd3b4998df29d59b4a"},
	{2, 32, 1399, "79cd545189dd7561d7a13aecf999bf18f1fb31c0ed2a921153d3965287fad16f"},
	{51, 11, 1399, "3d0c66045b1216118c24f259fa7e5fbc595f8836b96999487feea238a369afca"},
	{20, 20, 1219, "dd34b67325604a074a8a4c97788b21f25a0d1c44a8393e21ecbff7ec95a6e6cf"},
	{9, 29, 1399, "2b8d14fc0eb5513a040ffe161588e76232a501dafc051871cf0d398c2c7f98e2"},
	{65, 0, 0, ""},
	{0, 33, 0, ""},
	{3, 32, 0, ""},
	{49, 12, 0, ""},
	{7, 30, 0, ""},
}

// show is a batch as a text.
func show(b syncwire.Batch, errno api.Errno) string {
	if errno != api.OK {
		return "refused"
	}
	text := fmt.Sprintf("%d %d", b.Session, b.Number)
	for _, r := range b.L {
		f := r.Flow
		text += fmt.Sprintf("; %d %x %x %d %d %d %d %d", f.Proto, string(f.From), string(f.To), f.Port, f.Dest, r.Backend, r.State, r.Left)
	}
	return text
}

// showAnswer is an answer as a text.
func showAnswer(a syncwire.Answer, errno api.Errno) string {
	if errno != api.OK {
		return "refused"
	}
	return fmt.Sprintf("%d %d %t %d", a.Session, a.Number, a.Gap, a.Refused)
}

func TestKnown(t *testing.T) {
	for _, x := range knownBatches {
		told, errno := syncwire.Decode(unhex(x.bytes))
		if s := show(told, errno); s != x.is {
			t.Errorf("P14.1: Decode of %s is %s, not %s", x.bytes, s, x.is)
		}
		if errno != api.OK {
			continue
		}
		if again, errno := syncwire.Encode(told); errno != api.OK || hex.EncodeToString(again) != x.bytes {
			t.Errorf("P14.1: Encode of %s is %x %d", x.is, again, errno)
		}
	}
	for _, x := range knownAnswers {
		told, errno := syncwire.DecodeAnswer(unhex(x.bytes))
		if s := showAnswer(told, errno); s != x.is {
			t.Errorf("P14.2: DecodeAnswer of %s is %s, not %s", x.bytes, s, x.is)
		}
		if errno != api.OK {
			continue
		}
		if again, errno := syncwire.EncodeAnswer(told); errno != api.OK || hex.EncodeToString(again) != x.bytes {
			t.Errorf("P14.2: EncodeAnswer of %s is %x %d", x.is, again, errno)
		}
	}
}

// made is the records that knownLong has.
func made(fours, sixes int) []syncwire.Record {
	l := []syncwire.Record{}
	for i := range fours + sixes {
		many := 4
		if i >= fours {
			many = 16
		}
		from, to := make([]byte, many), make([]byte, many)
		for k := range many {
			from[k], to[k] = byte(i*3+k), byte(i*5+7*k+1)
		}
		flow := api.Flow{Proto: i * 7 % 256, From: api.Addr(from), To: api.Addr(to), Port: i * 1021 % 65536, Dest: i * 2039 % 65536}
		l = append(l, syncwire.Record{Flow: flow, Backend: i % 16, State: i%4 + 1, Left: i * 4093 % 65536})
	}
	return l
}

func TestKnownLong(t *testing.T) {
	for _, x := range knownLong {
		l := made(x.fours, x.sixes)
		b, errno := syncwire.Encode(syncwire.Batch{Session: 1 << 40, Number: 77, L: l})
		if len(b) != x.many {
			t.Errorf("P14.1: %d and %d records have %d bytes, not %d", x.fours, x.sixes, len(b), x.many)
		}
		if x.many == 0 {
			if errno != api.ErrSyncForm {
				t.Errorf("P14.1: %d and %d records: %d, not ErrSyncForm", x.fours, x.sixes, errno)
			}
			continue
		}
		if sum := fmt.Sprintf("%x", sha256.Sum256(b)); errno != api.OK || sum != x.sum {
			t.Errorf("P14.1: %d and %d records: %d, with the SHA-256 %s, not %s", x.fours, x.sixes, errno, sum, x.sum)
		}
		if told, errno := syncwire.Decode(b); errno != api.OK || !slices.Equal(told.L, l) {
			t.Errorf("P14.4: %d and %d records aren't read as they were written (%d)", x.fours, x.sixes, errno)
		}
	}
}

func TestRightOfEachNumber(t *testing.T) {
	for _, p := range parts() {
		for number := -300; number < 66000; number++ {
			is := number >= p.least && number <= p.greatest
			if syncwire.Right(with(four, p, number)) != is || syncwire.Right(with(six, p, number)) != is {
				t.Errorf("P14.1: Right of a record of %s %d is not %t", p.name, number, is)
			}
		}
		for _, number := range slices.Concat(far, farther, []int{top - 1, top, top + 1}) {
			if syncwire.Right(with(four, p, number)) || syncwire.Right(with(six, p, number)) {
				t.Errorf("P14.1: Right of a record of %s %d", p.name, number)
			}
		}
	}
}

func TestRightOfAddresses(t *testing.T) {
	longs := []int{20, 32, 40, 64, 255, 256, 260, 272, 65540, 1<<20 + 16}
	for many := range 20 {
		longs = append(longs, many)
	}
	for _, from := range longs {
		for _, to := range longs {
			is := from == 4 && to == 4 || from == 16 && to == 16
			if syncwire.Right(between(four, long(from), long(to))) != is || syncwire.Right(between(six, long(from), long(to))) != is {
				t.Errorf("P14.1: Right of a record with addresses of %d and %d bytes is not %t", from, to, is)
			}
			checkEncode(t, fmt.Sprintf("addresses of %d and %d bytes", from, to), batch(between(six, long(from), long(to))))
		}
	}
	for _, flow := range []api.Flow{
		{From: four1, To: four1}, {From: six1, To: six1}, {From: "\x00\x00\x00\x00", To: "\xff\xff\xff\xff"},
		{From: api.Addr(strings.Repeat("\xff", 16)), To: api.Addr(strings.Repeat("\x00", 16))},
	} {
		if !syncwire.Right(syncwire.Record{Flow: flow, State: 1}) {
			t.Errorf("P14.1: a record with the addresses %x and %x is not Right", string(flow.From), string(flow.To))
		}
	}
	if syncwire.Right(syncwire.Record{}) {
		t.Error("P14.1: a record of zeros is Right")
	}
}

// amiss is a record of which one thing is just not as it may be; and just so is those that are as far as they may be.
func amiss(r syncwire.Record) map[string]syncwire.Record {
	told := map[string]syncwire.Record{}
	for _, p := range parts() {
		told[p.name+" too small"] = with(r, p, p.least-1)
		told[p.name+" too great"] = with(r, p, p.greatest+1)
		told[p.name+" far too small"] = with(r, p, math.MinInt)
		told[p.name+" far too great"] = with(r, p, math.MaxInt)
		// What is cut to the bytes that it is written in may look right.
		told[p.name+" beyond one byte"] = with(r, p, 1<<32+1)
		told[p.name+" beyond two bytes"] = with(r, p, 65536+1)
	}
	for _, many := range []int{0, 3, 5, 15, 17} {
		told[fmt.Sprintf("From of %d bytes", many)] = between(r, long(many), r.Flow.To)
		told[fmt.Sprintf("To of %d bytes", many)] = between(r, r.Flow.From, long(many))
		told[fmt.Sprintf("both of %d bytes", many)] = between(r, long(many), long(many))
	}
	told["of two kinds"] = between(r, four1, six2)
	told["of two kinds, turned"] = between(r, six1, four2)
	return told
}

func justSo(r syncwire.Record) map[string]syncwire.Record {
	told := map[string]syncwire.Record{"four": between(r, long(4), four1), "six": between(r, long(16), six2)}
	for _, p := range parts() {
		told[p.name+" least"] = with(r, p, p.least)
		told[p.name+" greatest"] = with(r, p, p.greatest)
	}
	return told
}

func TestEachAmissByItself(t *testing.T) {
	for _, l := range [][]syncwire.Record{several(1), several(2), several(3), several(10), several(40), made(30, 0), made(0, 32)} {
		many := len(l)
		for _, at := range places(many) {
			for name, r := range amiss(l[at]) {
				if syncwire.Right(r) {
					t.Errorf("P14.1: Right of a record with %s", name)
				}
				x := slices.Clone(l)
				x[at] = r
				notEncoded(t, fmt.Sprintf("%s in record %d of %d", name, at, many), batch(x...))
			}
			for name, r := range justSo(l[at]) {
				if !syncwire.Right(r) {
					t.Errorf("P14.1: a record with %s is not Right", name)
				}
				x := slices.Clone(l)
				x[at] = r
				isEncoded(t, fmt.Sprintf("%s in record %d of %d", name, at, many), batch(x...))
			}
		}
	}
}

func TestSessionAndNumberOfABatch(t *testing.T) {
	for _, n := range slices.Concat(far, farther, []int{-1, top + 1}) {
		if n < 0 || n > top {
			notEncoded(t, fmt.Sprint("Session ", n), syncwire.Batch{Session: n, Number: 1, L: several(2)})
			notEncoded(t, fmt.Sprint("Number ", n), syncwire.Batch{Session: 1, Number: n, L: several(2)})
			continue
		}
		isEncoded(t, fmt.Sprint("Session ", n), syncwire.Batch{Session: n, Number: 1, L: several(2)})
		isEncoded(t, fmt.Sprint("Number ", n), syncwire.Batch{Session: 1, Number: n, L: several(2)})
	}
	for _, n := range []int{1, 2, 255, 256, 65535, 65536, 1<<32 - 1, 1 << 32, 1 << 56, top - 1, top} {
		isEncoded(t, fmt.Sprint("Session ", n), syncwire.Batch{Session: n, Number: 7, L: several(2)})
		isEncoded(t, fmt.Sprint("Number ", n), syncwire.Batch{Session: 7, Number: n, L: several(2)})
		isEncoded(t, fmt.Sprint("both ", n), syncwire.Batch{Session: n, Number: n, L: several(2)})
	}
	isEncoded(t, "Session 0", syncwire.Batch{Session: 0, Number: 1, L: several(2)})
	notEncoded(t, "Number 0", syncwire.Batch{Session: 1, Number: 0, L: several(2)})
	notEncoded(t, "nothing", syncwire.Batch{})
}

func TestSessionAndNumberOfAnAnswer(t *testing.T) {
	for _, n := range slices.Concat(far, farther, []int{-1, 0, 1, 255, 256, 1 << 56, top - 1, top, top + 1}) {
		for _, a := range []syncwire.Answer{{Session: n}, {Number: n}, {Session: n, Number: n}, {Session: n, Number: 3, Gap: true, Refused: 9}, {Session: 3, Number: n, Gap: true, Refused: 1 << 63}} {
			checkEncodeAnswer(t, fmt.Sprint("of ", n), a)
			b, errno := syncwire.EncodeAnswer(a)
			if (n < 0 || n > top) != (errno == api.ErrSyncForm) || (errno == api.OK) != (len(b) == 27) {
				t.Errorf("P14.2: EncodeAnswer of %v has %d bytes (%d)", a, len(b), errno)
			}
		}
	}
}

func TestHowManyRecords(t *testing.T) {
	notEncoded(t, "no records", syncwire.Batch{Session: 1, Number: 1})
	notEncoded(t, "an empty list", syncwire.Batch{Session: 1, Number: 1, L: []syncwire.Record{}})
	for many := 1; many <= 64; many++ {
		isEncoded(t, fmt.Sprint(many, " fours"), batch(made(many, 0)...))
	}
	for many := 1; many <= 32; many++ {
		isEncoded(t, fmt.Sprint(many, " sixes"), batch(made(0, many)...))
	}
	for _, many := range []int{65, 66, 127, 128, 255, 256, 257, 320} {
		notEncoded(t, fmt.Sprint(many, " fours"), batch(made(many, 0)...))
		notEncoded(t, fmt.Sprint(many, " sixes"), batch(made(0, many)...))
	}
}

// What is ahead of the records has 19 bytes, and each of these a multiple of 6: no batch has just 1400
// bytes. The most that there is is 1399, and the next more 1405.
func TestBytesOfABatch(t *testing.T) {
	sizes := map[int]int{}
	for fours := range 67 {
		for sixes := range 36 {
			many, size := fours+sixes, 19+18*fours+42*sixes
			b := batch(made(fours, sixes)...)
			told, errno := syncwire.Encode(b)
			if many >= 1 && many <= 64 && size <= 1400 {
				if errno != api.OK || len(told) != size {
					t.Errorf("P14.1: %d fours and %d sixes have %d bytes (%d), not %d", fours, sixes, len(told), errno, size)
				}
				sizes[size]++
				continue
			}
			if many >= 1 && many <= 64 {
				sizes[size]++
			}
			if errno != api.ErrSyncForm || len(told) != 0 {
				t.Errorf("P14.1: %d fours and %d sixes have %d bytes (%d), not ErrSyncForm", fours, sixes, len(told), errno)
			}
		}
	}
	if sizes[1399] == 0 || sizes[1400] != 0 || sizes[1405] == 0 {
		t.Errorf("P14.1: of 1399, 1400 and 1405 bytes there are %d, %d and %d batches", sizes[1399], sizes[1400], sizes[1405])
	}
	checkEncode(t, "1399 bytes", batch(made(2, 32)...))
	checkEncode(t, "1399 bytes", batch(made(51, 11)...))
	checkEncode(t, "1405 bytes", batch(made(0, 33)...))
	checkEncode(t, "1405 bytes", batch(made(49, 12)...))
	// Bytes that are too many are no batch's, though all that they say is right.
	for _, l := range [][]syncwire.Record{made(0, 33), made(49, 12), made(7, 30), made(0, 64), made(0, 40)} {
		notDecoded(t, "too many bytes", plainBytes(1, 1, len(l), l))
	}
}

// sized is records of which each has so many bytes in a batch, whatever else it has.
func sized(sizes ...int) []syncwire.Record {
	l := []syncwire.Record{}
	for i, size := range sizes {
		from := (size - 10) * (i % 4) / 3
		l = append(l, syncwire.Record{Flow: api.Flow{Proto: -1, From: long(from), To: long(size - 10 - from)}, State: 9})
	}
	return l
}

func TestRoomByHand(t *testing.T) {
	for i, x := range []struct {
		l    []syncwire.Record
		want int
	}{
		{nil, 0},
		{[]syncwire.Record{}, 0},
		{[]syncwire.Record{four}, 1},
		{[]syncwire.Record{six}, 1},
		{[]syncwire.Record{{}}, 1},
		{slices.Repeat([]syncwire.Record{four}, 63), 63},
		{slices.Repeat([]syncwire.Record{four}, 64), 64},
		{slices.Repeat([]syncwire.Record{four}, 65), 64},
		{slices.Repeat([]syncwire.Record{four}, 1000), 64},
		{slices.Repeat([]syncwire.Record{six}, 31), 31},
		{slices.Repeat([]syncwire.Record{six}, 32), 32},
		{slices.Repeat([]syncwire.Record{six}, 33), 32},
		{slices.Repeat([]syncwire.Record{six}, 1000), 32},
		{slices.Repeat([]syncwire.Record{{}}, 63), 63},
		{slices.Repeat([]syncwire.Record{{}}, 64), 64},
		{slices.Repeat([]syncwire.Record{{}}, 65), 64},
		{made(2, 32), 34},
		{made(2, 33), 34},
		{made(3, 32), 34},
		{made(51, 11), 62},
		{made(51, 12), 62},
		{made(49, 12), 60},
		{sized(1381), 1},
		{sized(1382), 0},
		{sized(1382, 10), 0},
		{sized(1<<20, 10, 10), 0},
		{sized(10, 1371), 2},
		{sized(10, 1372), 1},
		{sized(10, 1372, 10), 1},
		{sized(1371, 10, 10), 2},
		{sized(1371, 11, 10), 1},
		{sized(1370, 10, 10), 2},
		{sized(1361, 10, 10), 3},
		{sized(10, 20, 30, 1321), 4},
		{sized(10, 20, 30, 1322), 3},
		{sized(10, 20, 30, 1322, 10, 10, 10), 3},
		{sized(slices.Repeat([]int{21}, 64)...), 64},
		{sized(append(slices.Repeat([]int{21}, 63), 58)...), 64},
		{sized(append(slices.Repeat([]int{21}, 63), 59)...), 63},
		{sized(append(slices.Repeat([]int{21}, 63), 58, 10)...), 64},
		{sized(slices.Repeat([]int{22}, 64)...), 62},
	} {
		if n := syncwire.Room(x.l); n != x.want {
			t.Errorf("P14.3: Room %d, of %d records, is %d, not %d", i, len(x.l), n, x.want)
		}
	}
}

// The bytes of an address count wherever it stands, and nothing else of a record does.
func TestRoomCountsAddressesAlone(t *testing.T) {
	for from := range 1400 {
		for _, to := range []int{0, 1, 4, 16, 1370 - from, 1371 - from, 1372 - from, 1373 - from} {
			if to < 0 {
				continue
			}
			r := syncwire.Record{Flow: api.Flow{From: long(from), To: long(to)}}
			want := 0
			if 19+10+from+to <= 1400 {
				want = 1
			}
			if n := syncwire.Room([]syncwire.Record{r}); n != want {
				t.Errorf("P14.3: Room of a record with addresses of %d and %d bytes is %d, not %d", from, to, n, want)
			}
		}
	}
	for _, p := range parts() {
		for _, n := range slices.Concat(far, farther) {
			l := slices.Repeat([]syncwire.Record{with(six, p, n)}, 40)
			if many := syncwire.Room(l); many != 32 {
				t.Errorf("P14.3: Room of records of %s %d is %d, not 32", p.name, n, many)
			}
		}
	}
}

func TestRoomOfMany(t *testing.T) {
	chance := rand.New(rand.NewSource(143))
	for range 4000 {
		most := []int{12, 40, 60, 200, 1500}[chance.Intn(5)]
		l := []syncwire.Record{}
		for range chance.Intn(80) {
			l = append(l, between(four, long(chance.Intn(most)), long(chance.Intn(most))))
		}
		if n, want := syncwire.Room(l), plainRoom(l); n != want {
			t.Fatalf("P14.3: Room of %d records with addresses of at most %d bytes is %d, not %d", len(l), most, n, want)
		}
	}
}

// someRecord is a right one.
func someRecord(chance *rand.Rand) syncwire.Record {
	r := syncwire.Record{Flow: api.Flow{From: someAddr(chance, 4), To: someAddr(chance, 4)}}
	if chance.Intn(2) == 0 {
		r.Flow.From, r.Flow.To = someAddr(chance, 16), someAddr(chance, 16)
	}
	for _, p := range parts() {
		n := p.least + chance.Intn(p.greatest-p.least+1)
		switch chance.Intn(8) {
		case 0:
			n = p.least
		case 1:
			n = p.greatest
		}
		*p.of(&r) = n
	}
	return r
}

func someAddr(chance *rand.Rand, many int) api.Addr {
	b := make([]byte, many)
	chance.Read(b)
	return api.Addr(b)
}

func someNumber(chance *rand.Rand, least int) int {
	switch chance.Intn(5) {
	case 0:
		return least
	case 1:
		return top
	case 2:
		return least + chance.Intn(300)
	}
	return least + chance.Intn(top)
}

// someBatch is one that is one.
func someBatch(chance *rand.Rand) syncwire.Batch {
	b := syncwire.Batch{Session: someNumber(chance, 0), Number: someNumber(chance, 1)}
	for range 1 + chance.Intn([]int{1, 3, 32}[chance.Intn(3)]) {
		b.L = append(b.L, someRecord(chance))
	}
	return b
}

func someAnswer(chance *rand.Rand) syncwire.Answer {
	return syncwire.Answer{
		Session: someNumber(chance, 0),
		Number:  someNumber(chance, 0),
		Gap:     chance.Intn(2) == 0,
		Refused: chance.Uint64(),
	}
}

func TestWhatIsReadIsWhatWasWritten(t *testing.T) {
	chance := rand.New(rand.NewSource(144))
	for range 3000 {
		b := someBatch(chance)
		told, errno := syncwire.Decode(encoded(t, b))
		if errno != api.OK || !sameBatch(told, b) {
			t.Errorf("P14.4: Decode of what Encode told of %v is %v %d", b, told, errno)
		}
		checkEncode(t, "some batch", b)
		a := someAnswer(chance)
		written, errno := syncwire.EncodeAnswer(a)
		if errno != api.OK {
			t.Errorf("P14.2: EncodeAnswer of %v: %d", a, errno)
		}
		if told, errno := syncwire.DecodeAnswer(written); errno != api.OK || told != a {
			t.Errorf("P14.4: DecodeAnswer of what EncodeAnswer told of %v is %v %d", a, told, errno)
		}
		checkEncodeAnswer(t, "some answer", a)
	}
}

func TestRoomIsWhatEncodeTakes(t *testing.T) {
	chance := rand.New(rand.NewSource(145))
	more := 0
	for range 400 {
		l := []syncwire.Record{}
		for range 1 + chance.Intn(80) {
			l = append(l, someRecord(chance))
		}
		if chance.Intn(2) == 0 {
			slices.SortFunc(l, func(a, b syncwire.Record) int { return len(a.Flow.From) - len(b.Flow.From) })
		}
		many := syncwire.Room(l)
		if many < 1 || many > min(len(l), 64) {
			t.Fatalf("P14.3: Room of %d right records is %d", len(l), many)
		}
		if b, errno := syncwire.Encode(batch(l[:many]...)); errno != api.OK || len(b) > 1400 {
			t.Errorf("P14.4: Encode of the first %d of %d records has %d bytes (%d)", many, len(l), len(b), errno)
		}
		if many == len(l) || many == 64 {
			continue
		}
		more++
		if b, errno := syncwire.Encode(batch(l[:many+1]...)); errno != api.ErrSyncForm || len(b) != 0 {
			t.Errorf("P14.4: Encode of one more than the first %d of %d records has %d bytes (%d)", many, len(l), len(b), errno)
		}
	}
	if more < 100 {
		t.Errorf("only %d lists had one more", more)
	}
}

// ordinary are batches of few and of many records.
func ordinary() []syncwire.Batch {
	return []syncwire.Batch{
		batch(four), batch(six), batch(four, six, four), batch(six, four, six),
		{Session: 0, Number: 1, L: several(5)}, {Session: top, Number: top, L: several(7)}, batch(made(2, 32)...), batch(made(64, 0)...),
	}
}

func ordinaryAnswers() []syncwire.Answer {
	return []syncwire.Answer{
		{}, {Gap: true}, {Session: 1, Number: 2, Refused: 3}, {Session: top, Number: top, Gap: true, Refused: math.MaxUint64},
		{Session: 0x0102030405060708, Number: 0x1112131415161718, Refused: 0xf1f2f3f4f5f6f7f8},
	}
}

func TestNoBytes(t *testing.T) {
	notDecoded(t, "nil", nil)
	notDecoded(t, "none", []byte{})
	notDecoded(t, "none of some", []byte{0x53, 1}[:0])
	for x := range 256 {
		notDecoded(t, "one byte", []byte{byte(x)})
	}
	for many := range 1500 {
		notDecoded(t, "zeros", make([]byte, many))
		notDecoded(t, "ones", bytes.Repeat([]byte{1}, many))
		notDecoded(t, "ff", bytes.Repeat([]byte{0xff}, many))
		notDecoded(t, "53 01", bytes.Repeat([]byte{0x53, 1}, many))
		notDecoded(t, "41 01", bytes.Repeat([]byte{0x41, 1}, many))
	}
}

func TestEachCut(t *testing.T) {
	for _, b := range ordinary() {
		whole := encoded(t, b)
		for many := range whole {
			notDecoded(t, fmt.Sprint("the first ", many), whole[:many])
			notDecoded(t, fmt.Sprint("the first ", many, " and no more"), slices.Clone(whole[:many]))
			notDecoded(t, fmt.Sprint("without the first ", many+1), whole[many+1:])
		}
	}
	for _, a := range ordinaryAnswers() {
		whole, _ := plainAnswer(a)
		for many := range whole {
			notDecoded(t, fmt.Sprint("the first ", many), whole[:many])
			notDecoded(t, fmt.Sprint("without the first ", many+1), whole[many+1:])
		}
	}
}

func TestBytesBehind(t *testing.T) {
	for _, b := range ordinary() {
		whole := encoded(t, b)
		for x := range 256 {
			notDecoded(t, "one byte behind", append(slices.Clone(whole), byte(x)))
			notDecoded(t, "one byte ahead", append([]byte{byte(x)}, whole...))
		}
		notDecoded(t, "a record behind", append(slices.Clone(whole), unhex(plainRecord(four))...))
		notDecoded(t, "twice", append(slices.Clone(whole), whole...))
		notDecoded(t, "many behind", append(slices.Clone(whole), make([]byte, 100000)...))
	}
	for _, a := range ordinaryAnswers() {
		whole, _ := plainAnswer(a)
		for x := range 256 {
			notDecoded(t, "one byte behind", append(slices.Clone(whole), byte(x)))
			notDecoded(t, "one byte ahead", append([]byte{byte(x)}, whole...))
		}
		notDecoded(t, "twice", append(slices.Clone(whole), whole...))
	}
}

// Each byte of what was written is another one: what it is then, the plain reading says; and it is never what it was.
func TestEachByteAnother(t *testing.T) {
	for _, b := range ordinary()[:6] {
		whole := encoded(t, b)
		for at := range whole {
			for x := range 256 {
				name := fmt.Sprintf("byte %d as %02x", at, x)
				other := put(whole, at, byte(x))
				checkDecode(t, name, other)
				told, errno := syncwire.Decode(other)
				if errno == api.OK && sameBatch(told, b) != (byte(x) == whole[at]) {
					t.Errorf("P14.1: Decode, %s, of %x is the same batch", name, other)
				}
			}
		}
	}
	for _, a := range ordinaryAnswers() {
		whole, _ := plainAnswer(a)
		for at := range whole {
			for x := range 256 {
				name := fmt.Sprintf("byte %d as %02x", at, x)
				other := put(whole, at, byte(x))
				checkDecodeAnswer(t, name, other)
				told, errno := syncwire.DecodeAnswer(other)
				if errno == api.OK && (told == a) != (byte(x) == whole[at]) {
					t.Errorf("P14.2: DecodeAnswer, %s, of %x is the same answer", name, other)
				}
			}
		}
	}
}

func TestFirstBytes(t *testing.T) {
	whole := encoded(t, batch(four, six))
	told, _ := plainAnswer(syncwire.Answer{Session: 1, Number: 2, Gap: true, Refused: 3})
	for x := range 65536 {
		first, second := byte(x/256), byte(x%256)
		_, errno := syncwire.Decode(put(put(whole, 0, first), 1, second))
		if (errno == api.OK) != (first == 0x53 && second == 1) {
			t.Errorf("P14.1: Decode of a batch that begins with %02x %02x: %d", first, second, errno)
		}
		_, errno = syncwire.DecodeAnswer(put(put(told, 0, first), 1, second))
		if (errno == api.OK) != (first == 0x41 && second == 1) {
			t.Errorf("P14.2: DecodeAnswer of an answer that begins with %02x %02x: %d", first, second, errno)
		}
	}
	notDecoded(t, "a batch that begins as an answer", put(whole, 0, 0x41))
	notDecoded(t, "an answer that begins as a batch", put(told, 0, 0x53))
}

// Numbers of eight bytes may have any bits in what comes.
func TestSessionAndNumberThatAreRead(t *testing.T) {
	numbers := []uint64{0, 1, 2, top - 1, top, top + 1, top + 2, top + 1<<61, 1<<63 - 1, 1 << 63, 1<<63 + 1, 1<<63 + top, math.MaxUint64 - 1, math.MaxUint64}
	for bit := range 64 {
		numbers = append(numbers, 1<<bit, 1<<bit|1, top|1<<bit, math.MaxUint64>>bit, math.MaxUint64<<bit)
	}
	for _, n := range numbers {
		session, number := n <= top, n >= 1 && n <= top
		for i, x := range []struct {
			b    []byte
			want bool
		}{
			{plainBytes(n, 1, 1, []syncwire.Record{four}), session},
			{plainBytes(1, n, 1, []syncwire.Record{four}), number},
			{plainBytes(n, n, 3, []syncwire.Record{four, six, four}), number},
		} {
			told, errno := syncwire.Decode(x.b)
			if (errno == api.OK) != x.want || x.want && told.Session != []int{int(n), 1, int(n)}[i] || x.want && told.Number != []int{1, int(n), int(n)}[i] {
				t.Errorf("P14.1: Decode of bytes with %x for Session or Number (%d): %v %d", n, i, told, errno)
			}
			checkDecode(t, "numbers of eight bytes", x.b)
		}
		for i, b := range [][]byte{plainAnswerBytes(n, 1, 0, 0), plainAnswerBytes(1, n, 1, 0), plainAnswerBytes(n, n, 0, 9)} {
			told, errno := syncwire.DecodeAnswer(b)
			if (errno == api.OK) != session || session && told.Session != []int{int(n), 1, int(n)}[i] || session && told.Number != []int{1, int(n), int(n)}[i] {
				t.Errorf("P14.2: DecodeAnswer of bytes with %x for Session or Number (%d): %v %d", n, i, told, errno)
			}
			checkDecodeAnswer(t, "numbers of eight bytes", b)
		}
	}
}

func TestCounts(t *testing.T) {
	for _, many := range []int{1, 2, 3, 10, 63, 64} {
		for count := range 256 {
			b := plainBytes(9, 9, count, made(many, 0))
			told, errno := syncwire.Decode(b)
			if (errno == api.OK) != (count == many) || errno == api.OK && !slices.Equal(told.L, made(many, 0)) {
				t.Errorf("P14.1: Decode of %d records that are said to be %d: %d records, %d", many, count, len(told.L), errno)
			}
			checkDecode(t, "a count", b)
		}
	}
	notDecoded(t, "no records", plainBytes(9, 9, 0, nil))
	for count := range 256 {
		notDecoded(t, fmt.Sprint("none of ", count), plainBytes(9, 9, count, nil))
	}
	for _, many := range []int{65, 66, 100, 128, 255} {
		notDecoded(t, fmt.Sprint(many, " records"), plainBytes(9, 9, many, made(many, 0)))
	}
	notDecoded(t, "256 records that are said to be none", plainBytes(9, 9, 0, made(256, 0)))
	notDecoded(t, "257 records that are said to be one", plainBytes(9, 9, 1, made(257, 0)))
}

// Addresses are as long as it is said, but of another length than there is.
func TestAddressesThatAreRead(t *testing.T) {
	for many := range 256 {
		r := between(four, long(many), long(many))
		for _, l := range [][]syncwire.Record{{r}, {r, four, six}, {six, r, four}, {four, six, r}} {
			b := plainBytes(4, 5, len(l), l)
			if _, errno := syncwire.Decode(b); (errno == api.OK) != (many == 4 || many == 16) {
				t.Errorf("P14.1: Decode of addresses of %d bytes: %d", many, errno)
			}
			checkDecode(t, fmt.Sprintf("addresses of %d bytes", many), b)
		}
	}
	// The length is another one than that of the addresses that stand there.
	for _, l := range [][]syncwire.Record{{four}, {six}, {four, six}, {six, four}, {four, four, four}} {
		b := plainBytes(4, 5, len(l), l)
		for many := range 256 {
			if many != len(l[0].Flow.From) {
				notDecoded(t, fmt.Sprint("a length of ", many), put(b, 20, byte(many)))
			}
		}
	}
}

func TestRecordsThatAreRead(t *testing.T) {
	for _, many := range []int{1, 3, 7} {
		for _, at := range places(many) {
			for n := range 256 {
				l := several(many)
				l[at].Backend = n
				b := plainBytes(4, 5, many, l)
				if _, errno := syncwire.Decode(b); (errno == api.OK) != (n <= 15) {
					t.Errorf("P14.1: Decode of Backend %d in record %d of %d: %d", n, at, many, errno)
				}
				checkDecode(t, "a Backend", b)
				l = several(many)
				l[at].State = n
				b = plainBytes(4, 5, many, l)
				if _, errno := syncwire.Decode(b); (errno == api.OK) != (n >= 1 && n <= 4) {
					t.Errorf("P14.1: Decode of State %d in record %d of %d: %d", n, at, many, errno)
				}
				checkDecode(t, "a State", b)
			}
			for _, n := range []int{0, 1, 255, 256, 257, 32767, 32768, 65534, 65535} {
				for _, p := range parts() {
					if n > p.greatest || n < p.least {
						continue
					}
					l := several(many)
					l[at] = with(l[at], p, n)
					told, errno := syncwire.Decode(plainBytes(4, 5, many, l))
					if errno != api.OK || !slices.Equal(told.L, l) {
						t.Errorf("P14.1: Decode of %s %d in record %d of %d: %v %d", p.name, n, at, many, told.L, errno)
					}
				}
			}
		}
	}
}

func TestGapAndRefused(t *testing.T) {
	refused := []uint64{0, 1, 2, 1<<32 - 1, 1 << 32, top, top + 1, 1<<63 - 1, 1 << 63, 1<<63 | 1, math.MaxUint64 - 1, math.MaxUint64, 0x0102030405060708, 0xf1f2f3f4f5f6f7f8}
	for bit := range 64 {
		refused = append(refused, 1<<bit)
	}
	for _, n := range refused {
		for _, gap := range []bool{false, true} {
			a := syncwire.Answer{Session: 3, Number: 4, Gap: gap, Refused: n}
			checkEncodeAnswer(t, "Refused", a)
			if told, errno := syncwire.DecodeAnswer(plainAnswerBytes(3, 4, map[bool]byte{true: 1}[gap], n)); errno != api.OK || told != a {
				t.Errorf("P14.2: DecodeAnswer of Gap %t, Refused %x is %v %d", gap, n, told, errno)
			}
		}
	}
	for gap := 2; gap < 256; gap++ {
		for _, n := range refused {
			notDecoded(t, fmt.Sprint("a Gap of ", gap), plainAnswerBytes(3, 4, byte(gap), n))
		}
	}
}

// spoilt is the bytes with something amiss with them, or nothing.
func spoilt(chance *rand.Rand, b []byte) []byte {
	b = slices.Clone(b)
	at := chance.Intn(len(b))
	switch chance.Intn(8) {
	case 0:
		b[at] ^= 1 << chance.Intn(8)
	case 1:
		b[at] = []byte{0, 1, 4, 5, 15, 16, 64, 65, 128, 255}[chance.Intn(10)]
	case 2:
		return b[:at]
	case 3:
		return append(b, make([]byte, 1+chance.Intn(40))...)
	case 4:
		return slices.Delete(b, at, at+1)
	case 5:
		return slices.Insert(b, at, byte(chance.Intn(256)))
	case 6:
		chance.Read(b[at:min(at+1+chance.Intn(8), len(b))])
	}
	return b
}

func TestMuchThatIsRead(t *testing.T) {
	chance := rand.New(rand.NewSource(146))
	taken := 0
	for range 20000 {
		b, _ := plainEncode(someBatch(chance))
		if len(b) == 0 {
			t.Fatal("some batch is none")
		}
		for range chance.Intn(3) {
			if len(b) > 0 {
				b = spoilt(chance, b)
			}
		}
		checkDecode(t, "some bytes", b)
		checkDecodeAnswer(t, "some bytes", b)
		if _, errno := syncwire.Decode(b); errno == api.OK {
			taken++
		}
		b, _ = plainAnswer(someAnswer(chance))
		for range chance.Intn(3) {
			if len(b) > 0 {
				b = spoilt(chance, b)
			}
		}
		checkDecodeAnswer(t, "some bytes", b)
		checkDecode(t, "some bytes", b)
	}
	if taken < 5000 || taken > 15000 {
		t.Errorf("of 20000 batches %d were taken", taken)
	}
}

func TestBytesOfChance(t *testing.T) {
	chance := rand.New(rand.NewSource(147))
	for range 20000 {
		b := make([]byte, chance.Intn(120))
		chance.Read(b)
		if len(b) > 18 && chance.Intn(4) > 0 {
			copy(b, []byte{0x53, 1, 0})
			b[10], b[18] = 0, byte(chance.Intn(4))
		}
		checkDecode(t, "bytes of chance", b)
		checkDecodeAnswer(t, "bytes of chance", b)
	}
}

// What was handed in stays as it was (R5), its room behind the end, too, and nothing of it is kept (R6).
func TestHandedIn(t *testing.T) {
	for _, b := range ordinary() {
		l := append(slices.Clone(b.L), six, four)
		kept := slices.Clone(l)
		told := encoded(t, syncwire.Batch{Session: b.Session, Number: b.Number, L: l[:len(b.L)]})
		if !slices.Equal(l, kept) {
			t.Error("R5: Encode writes into the records that it is given")
		}
		before := slices.Clone(told)
		clear(l)
		if !bytes.Equal(told, before) {
			t.Error("R6: what Encode told changes with the records that it was given")
		}
		if syncwire.Room(kept) != plainRoom(kept) || !slices.Equal(kept[:len(b.L)], b.L) {
			t.Error("R5: Room writes into the records that it is given")
		}
		whole := append(slices.Clone(told), 1, 2, 3)
		handed := slices.Clone(whole)
		read, errno := syncwire.Decode(handed[:len(told)])
		if errno != api.OK || !bytes.Equal(handed, whole) {
			t.Error("R5: Decode writes into the bytes that it is given", errno)
		}
		for at := range handed {
			handed[at] ^= 0xff
		}
		if !sameBatch(read, b) {
			t.Error("R6: what Decode told changes with the bytes that it was given")
		}
	}
	for _, a := range ordinaryAnswers() {
		told, _ := plainAnswer(a)
		whole := append(slices.Clone(told), 1, 2, 3)
		handed := slices.Clone(whole)
		read, errno := syncwire.DecodeAnswer(handed[:len(told)])
		if errno != api.OK || !bytes.Equal(handed, whole) {
			t.Error("R5: DecodeAnswer writes into the bytes that it is given", errno)
		}
		clear(handed)
		if read != a {
			t.Error("R6: what DecodeAnswer told changes with the bytes that it was given")
		}
	}
}

// What is told is the caller's own (R6): to write into it, or behind it, changes no other answer.
func TestOwn(t *testing.T) {
	for _, b := range ordinary() {
		one, other := encoded(t, b), encoded(t, b)
		kept := slices.Clone(other)
		clear(one)
		_ = append(one, 1, 2, 3)
		clear(one[:cap(one)])
		if !bytes.Equal(other, kept) || !bytes.Equal(encoded(t, b), kept) {
			t.Error("R6: to write into what Encode told changes another answer of it")
		}
		first, _ := syncwire.Decode(kept)
		second, _ := syncwire.Decode(kept)
		clear(first.L[:cap(first.L)])
		third, _ := syncwire.Decode(kept)
		if !sameBatch(second, b) || !sameBatch(third, b) {
			t.Error("R6: to write into what Decode told changes another answer of it")
		}
		if whole, _ := plainEncode(b); !bytes.Equal(kept, whole) {
			t.Error("R6: to write into what Decode told changes the bytes")
		}
	}
	for _, a := range ordinaryAnswers() {
		one, _ := syncwire.EncodeAnswer(a)
		other, _ := syncwire.EncodeAnswer(a)
		clear(one[:cap(one)])
		again, _ := syncwire.EncodeAnswer(a)
		want, _ := plainAnswer(a)
		if !bytes.Equal(other, want) || !bytes.Equal(again, want) {
			t.Error("R6: to write into what EncodeAnswer told changes another answer of it")
		}
	}
}

// all is what the calls tell of a few batches, answers and bytes.
func all() string {
	chance := rand.New(rand.NewSource(148))
	text := ""
	for range 100 {
		b, a := someBatch(chance), someAnswer(chance)
		l := slices.Repeat(b.L, 1+chance.Intn(4))
		one, errno1 := syncwire.Encode(b)
		two, errno2 := syncwire.EncodeAnswer(a)
		text += fmt.Sprintf("%x %d %x %d %d %t ", one, errno1, two, errno2, syncwire.Room(l), syncwire.Right(with(b.L[0], parts()[chance.Intn(6)], chance.Intn(20))))
		text += show(syncwire.Decode(spoilt(chance, one))) + showAnswer(syncwire.DecodeAnswer(spoilt(chance, two)))
	}
	return text
}

func TestSameCallsTellTheSame(t *testing.T) {
	want := all()
	for range 5 {
		if all() != want {
			t.Fatal("R7: the same calls tell something else")
		}
	}
}

func TestSideBySide(t *testing.T) {
	want := all()
	told := make([]string, 8)
	wait := sync.WaitGroup{}
	for i := range told {
		wait.Go(func() { told[i] = all() })
	}
	wait.Wait()
	for _, text := range told {
		if text != want {
			t.Error("R7: the same calls side by side tell something else")
		}
	}
}
