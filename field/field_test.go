package field_test

import (
	"bytes"
	"math/big"
	"math/rand"
	"slices"
	"strconv"
	"testing"

	"orlop/field"
	"orlop/word"
)

const elemLen = 32

// numbers: those that the document, or a curve's use, has to do with, and the greatest.
func numbers() []uint32 {
	out := []uint32{0, 1, 2, 3, 18, 19, 20, 38, 121665, 121666, 1 << 16, 1<<31 - 1, 1 << 31, 1<<31 + 1, 1<<32 - 20, 1<<32 - 19, 1<<32 - 2, 1<<32 - 1}
	for bit := range 32 {
		out = append(out, 1<<bit)
	}
	return out
}

// P7.1: the document's examples, and what follows of its words for some rows that are easily told.
func TestRowsThatAreEasilyTold(t *testing.T) {
	for _, c := range []struct{ row, want string }{
		{"", "00"},
		{"01", "01"},
		{"ff", "ff"},
		{"0001", "0001"},
		{many("ff", 32), "12"},               // 2^255 - 1
		{many("ff", 31) + "7f", "12"},        // the same, without the greatest bit
		{"ed" + many("ff", 30) + "7f", "00"}, // 2^255 - 19
		{"ed" + many("ff", 31), "00"},        // the same, with the greatest bit
		{"ec" + many("ff", 30) + "7f", "ec" + many("ff", 30) + "7f"}, // 2^255 - 20
		{"ec" + many("ff", 31), "ec" + many("ff", 30) + "7f"},
		{"ee" + many("ff", 30) + "7f", "01"}, // 2^255 - 18
		{"ee" + many("ff", 31), "01"},
		{many("00", 31) + "80", "00"}, // the greatest bit alone
		{"05" + many("00", 30) + "80", "05"},
		{many("00", 31) + "40", many("00", 31) + "40"}, // 2^254
		{many("ff", 31), many("ff", 31)},               // 2^248 - 1, in 31 bytes
		{many("00", 32) + "ff", "00"},                  // a byte behind the first 32
		{many("ff", 33), "12"},
	} {
		want := make([]byte, elemLen)
		copy(want, unhex(t, c.want))
		if got := field.From(unhex(t, c.row)).Bytes(); !bytes.Equal(got, want) {
			t.Errorf("%s: % x, not % x", c.row, got, want)
		}
	}
}

// P7.1: rows of each length; bytes that there aren't count as 0, those behind the first 32 don't count.
func TestRowsOfManyLengths(t *testing.T) {
	lengths := []int{1000, 4096, 65536, 1 << 20}
	for n := range 200 {
		lengths = append(lengths, n)
	}
	for _, n := range lengths {
		for _, b := range [][]byte{row(n), make([]byte, n), bytes.Repeat([]byte{0xff}, n), bytes.Repeat([]byte{0x80}, n)} {
			got := told(t, b)
			filled := make([]byte, elemLen)
			copy(filled, b)
			if want := told(t, filled); !bytes.Equal(got, want) {
				t.Errorf("%d bytes: % x; the first 32 of them, filled up with 0: % x", n, got, want)
			}
		}
	}
	told(t, nil)
	if got := field.From(nil).Bytes(); !bytes.Equal(got, make([]byte, elemLen)) {
		t.Errorf("nil: % x", got)
	}
}

// P7.1: what lies in a row's spare room, or ahead of it, doesn't count.
func TestSpareRoomDoesNotCount(t *testing.T) {
	b := bytes.Repeat([]byte{0xff}, 100)
	for n := range 40 {
		for _, at := range []int{0, 1, 7, 50} {
			got := told(t, b[at:at+n])
			if want := told(t, slices.Clip(bytes.Repeat([]byte{0xff}, n))); !bytes.Equal(got, want) {
				t.Errorf("%d bytes from %d on: % x; without spare room % x", n, at, got, want)
			}
		}
	}
}

// P7.1: numbers around those at which something begins anew, with the greatest bit and without.
func TestRowsAroundThePrime(t *testing.T) {
	for _, b := range edges() {
		told(t, b)
	}
	for off := int64(-300); off < 300; off++ {
		for _, around := range []*big.Int{new(big.Int), prime(), power(255), half()} {
			v := new(big.Int).Add(around, big.NewInt(off))
			if v.Sign() < 0 || v.BitLen() > 255 {
				continue
			}
			for _, high := range []bool{false, true} {
				got := told(t, rowOf(v, high))
				if want := rowOf(new(big.Int).Mod(v, prime()), false); !bytes.Equal(got, want) {
					t.Errorf("%v, greatest bit %v: % x, not % x", v, high, got, want)
				}
			}
		}
	}
}

// P7.1: rows all of whose bytes are alike, but one.
func TestRowsWhereOneByteIs(t *testing.T) {
	for _, most := range []byte{0, 1, 0x7f, 0x80, 0xfe, 0xff} {
		for at := range elemLen {
			for one := range 256 {
				b := bytes.Repeat([]byte{most}, elemLen)
				b[at] = byte(one)
				told(t, b)
			}
		}
	}
}

// P7.1: rows of one bit, and of all bits but one; each bit but the greatest counts.
func TestSingleBits(t *testing.T) {
	for _, begin := range [][]byte{make([]byte, elemLen), row(elemLen), bytes.Repeat([]byte{0xff}, elemLen)} {
		as := told(t, begin)
		for bit := range 8 * elemLen {
			got := told(t, turned(begin, bit))
			if bytes.Equal(got, as) != (bit == 255) {
				t.Errorf("% x, bit %d turned: % x", begin, bit, got)
			}
		}
	}
}

// P7.1: many rows; what is told is less than the prime, and told again as the same.
func TestManyRows(t *testing.T) {
	for seed := range int64(5000) {
		told(t, drawn(seed, elemLen))
	}
}

// P7.1: an element that nobody made is 0.
func TestNoElementIsZero(t *testing.T) {
	var none field.Elem
	if got := none.Bytes(); !bytes.Equal(got, make([]byte, elemLen)) {
		t.Errorf("% x", got)
	}
	x := field.From(row(elemLen))
	same(t, "x + none", x.Add(none), numberOf(row(elemLen)))
	same(t, "x - none", x.Sub(none), numberOf(row(elemLen)))
	same(t, "x none", x.Mul(none), new(big.Int))
	same(t, "the inverse of none", none.Invert(), new(big.Int))
}

// P7.2: sums, differences and products of edges, each with each.
func TestEachWithEach(t *testing.T) {
	rows := edges()
	for _, r := range rows {
		a, v := field.From(r), numberOf(r)
		for _, s := range rows {
			both(t, a, field.From(s), v, numberOf(s))
		}
	}
}

// P7.2: sums, differences and products of many.
func TestManyPairs(t *testing.T) {
	for seed := range int64(5000) {
		b := drawn(seed, 2*elemLen)
		both(t, field.From(b), field.From(b[elemLen:]), numberOf(b[:elemLen]), numberOf(b[elemLen:]))
	}
}

// P7.2: squares, products with numbers, and inverses.
func TestOfOne(t *testing.T) {
	rows := edges()
	for seed := range int64(1000) {
		rows = append(rows, drawn(seed, elemLen))
	}
	for _, r := range rows {
		a, v := field.From(r), numberOf(r)
		same(t, "square", a.Square(), new(big.Int).Mul(v, v))
		same(t, "product with itself", a.Mul(a), new(big.Int).Mul(v, v))
		same(t, "sum with itself", a.Add(a), new(big.Int).Lsh(v, 1))
		same(t, "difference with itself", a.Sub(a), new(big.Int))
		for _, n := range numbers() {
			same(t, "product with "+strconv.Itoa(int(n)), a.Times(n), new(big.Int).Mul(v, big.NewInt(int64(n))))
		}
	}
}

// P7.2, P7.3: inverses, and their products with the element: 1, but of 0.
func TestInverses(t *testing.T) {
	rows := edges()
	for seed := range int64(300) {
		rows = append(rows, drawn(seed, elemLen))
	}
	for n := range 300 {
		rows = append(rows, rowOf(big.NewInt(int64(n)), false), rowOf(new(big.Int).Sub(prime(), big.NewInt(int64(n))), true))
	}
	for _, r := range rows {
		a, v := field.From(r), numberOf(r)
		want, back := new(big.Int), new(big.Int)
		if v.Sign() != 0 {
			want.ModInverse(v, prime())
			back.SetInt64(1)
		}
		same(t, "inverse", a.Invert(), want)
		same(t, "inverse of the inverse", a.Invert().Invert(), v)
		same(t, "element and inverse", a.Mul(a.Invert()), back)
		same(t, "inverse and element", a.Invert().Mul(a), back)
	}
}

// P7.2: the document's example, and others that are easily told.
func TestInversesThatAreEasilyTold(t *testing.T) {
	for _, c := range []struct{ of, want *big.Int }{
		{big.NewInt(0), big.NewInt(0)},
		{big.NewInt(1), big.NewInt(1)},
		{big.NewInt(2), new(big.Int).Sub(power(254), big.NewInt(9))},
		{new(big.Int).Sub(power(254), big.NewInt(9)), big.NewInt(2)},
		{new(big.Int).Sub(prime(), big.NewInt(1)), new(big.Int).Sub(prime(), big.NewInt(1))},
		{prime(), big.NewInt(0)},
		{new(big.Int).Add(prime(), big.NewInt(1)), big.NewInt(1)},
	} {
		if got := field.From(rowOf(c.of, false)).Invert().Bytes(); !bytes.Equal(got, rowOf(c.want, false)) {
			t.Errorf("the inverse of %v: % x, not %v", c.of, got, c.want)
		}
	}
}

// P7.2: changed about just if the least bit is 1, whatever the others are.
func TestSwap(t *testing.T) {
	bits := []uint64{0, 1, 2, 3, 1 << 31, 1<<31 + 1, 1 << 32, 1<<32 + 1, 1<<32 - 1, 1 << 63, 1<<63 + 1, 1<<63 - 1, 1<<64 - 2, 1<<64 - 1, 0x5555555555555555, 0xaaaaaaaaaaaaaaaa}
	for i := range 64 {
		bits = append(bits, 1<<i, 1<<i+1)
	}
	rows := edges()
	for i, r := range rows {
		for _, s := range [][]byte{rows[(i+1)%len(rows)], r, row(elemLen), make([]byte, elemLen)} {
			a, b := field.From(r), field.From(s)
			for _, bit := range bits {
				c, d := field.Swap(bit, a, b)
				first, second := numberOf(r), numberOf(s)
				if bit%2 == 1 {
					first, second = second, first
				}
				same(t, "first of two", c, first)
				same(t, "second of two", d, second)
			}
			same(t, "first handed in", a, numberOf(r))
			same(t, "second handed in", b, numberOf(s))
		}
	}
}

// P7.3: sums and products don't hang on order and brackets; products go through sums; what is added and taken away is as it was.
func TestOrderAndBrackets(t *testing.T) {
	rows := edges()
	for seed := range int64(20000) {
		var x [3]field.Elem
		for i := range x {
			r := drawn(3*seed+int64(i), elemLen)
			if r[0]%2 == 0 {
				r = rows[int(r[1])%len(rows)]
			}
			x[i] = field.From(r)
		}
		a, b, c := x[0], x[1], x[2]
		alike(t, "a + b, b + a", a.Add(b), b.Add(a))
		alike(t, "ab, ba", a.Mul(b), b.Mul(a))
		alike(t, "(a + b) + c, a + (b + c)", a.Add(b).Add(c), a.Add(b.Add(c)))
		alike(t, "(ab)c, a(bc)", a.Mul(b).Mul(c), a.Mul(b.Mul(c)))
		alike(t, "a(b + c), ab + ac", a.Mul(b.Add(c)), a.Mul(b).Add(a.Mul(c)))
		alike(t, "(a + b)c, ac + bc", a.Add(b).Mul(c), a.Mul(c).Add(b.Mul(c)))
		alike(t, "a(b - c), ab - ac", a.Mul(b.Sub(c)), a.Mul(b).Sub(a.Mul(c)))
		alike(t, "a + b - b, a", a.Add(b).Sub(b), a)
		alike(t, "a - b + b, a", a.Sub(b).Add(b), a)
		alike(t, "a - (b - c), a - b + c", a.Sub(b.Sub(c)), a.Sub(b).Add(c))
		alike(t, "(a + b)², a² + 2ab + b²", a.Add(b).Square(), a.Square().Add(a.Mul(b).Times(2)).Add(b.Square()))
		alike(t, "(a + b)(a - b), a² - b²", a.Add(b).Mul(a.Sub(b)), a.Square().Sub(b.Square()))
	}
}

// P7.3: the inverse of a product is the inverses' product.
func TestInversesGoThroughProducts(t *testing.T) {
	for seed := range int64(500) {
		a, b := field.From(drawn(seed, elemLen)), field.From(drawn(seed+1000, elemLen))
		alike(t, "of a product", a.Mul(b).Invert(), a.Invert().Mul(b.Invert()))
		alike(t, "of a square", a.Square().Invert(), a.Invert().Square())
		alike(t, "of a number's product", a.Times(121666).Invert(), a.Invert().Mul(field.From(word.Put32(121666)).Invert()))
	}
}

// P7.2: every order of so many changes of two elements, each of which is reckoned on with.
func TestEveryOrder(t *testing.T) {
	full := bytes.Repeat([]byte{0xff}, elemLen)
	minus := rowOf(new(big.Int).Sub(prime(), big.NewInt(1)), false)
	for _, start := range [][2][]byte{{full, full}, {minus, full}, {nil, rowOf(prime(), true)}, {full, {1}}, {row(elemLen), minus}} {
		p := pair{field.From(start[0]), field.From(start[1]), left(numberOf(start[0])), left(numberOf(start[1]))}
		everyOrder(t, p, 5, "")
	}
}

func everyOrder(t *testing.T, p pair, depth int, path string) {
	p.check(t, path)
	if depth == 0 || t.Failed() {
		return
	}
	for i := range changes {
		everyOrder(t, p.changed(i), depth-1, path+" "+strconv.Itoa(i))
	}
}

// P7.2: long chains of changes, drawn in some order, from edges on.
func TestLongChains(t *testing.T) {
	rows := edges()
	for seed := range int64(40) {
		rnd := rand.New(rand.NewSource(seed))
		r, s := rows[rnd.Intn(len(rows))], rows[rnd.Intn(len(rows))]
		p := pair{field.From(r), field.From(s), left(numberOf(r)), left(numberOf(s))}
		for step := range 1000 {
			p = p.changed(rnd.Intn(changes))
			p.check(t, "chain "+strconv.Itoa(int(seed))+", step "+strconv.Itoa(step))
			if t.Failed() {
				return
			}
		}
	}
}

// P7.2: one change again and again, so that whatever is carried too late runs over.
func TestOneChangeAgainAndAgain(t *testing.T) {
	for _, r := range edges() {
		for i := range changes {
			p := pair{field.From(r), field.From(bytes.Repeat([]byte{0xff}, elemLen)), left(numberOf(r)), big.NewInt(18)}
			for range 20 {
				p = p.changed(i)
				p.check(t, "change "+strconv.Itoa(i)+" again and again")
			}
			if t.Failed() {
				return
			}
		}
	}
}

// P7.2: many sums without a look in between, and many differences, squares, products with the greatest number.
func TestManyChangesUnlooked(t *testing.T) {
	for _, r := range edges() {
		a := field.From(r)
		sum, less, squares, times, signs := a, a, a, a, a
		wantSum, wantLess := numberOf(r), numberOf(r)
		wantSquares, wantTimes := numberOf(r), numberOf(r)
		for range 100 {
			sum, less = sum.Add(a).Add(sum), less.Sub(a).Sub(a)
			squares, times = squares.Square(), times.Times(1<<32-1)
			signs = field.Elem{}.Sub(signs)
			wantSum.Add(wantSum, wantSum).Add(wantSum, numberOf(r))
			wantLess.Sub(wantLess, numberOf(r)).Sub(wantLess, numberOf(r))
			wantSquares.Mul(wantSquares, wantSquares).Mod(wantSquares, prime())
			wantTimes.Mul(wantTimes, big.NewInt(1<<32-1))
		}
		same(t, "sums", sum, wantSum)
		same(t, "differences", less, wantLess)
		same(t, "squares", squares, wantSquares)
		same(t, "products with a number", times, wantTimes)
		same(t, "signs", signs, numberOf(r))
	}
}

// pair: two elements, and the numbers that they must be.
type pair struct {
	a, b field.Elem
	v, w *big.Int
}

const changes = 10

// changed: the pair with the first element reckoned on, in one of the ways; the second in some of them, too.
func (p pair) changed(way int) pair {
	v := new(big.Int)
	switch way {
	case 0:
		p.a, p.v = p.a.Add(p.b), v.Add(p.v, p.w)
	case 1:
		p.a, p.v = p.a.Sub(p.b), v.Sub(p.v, p.w)
	case 2:
		p.a, p.v = p.b.Sub(p.a), v.Sub(p.w, p.v)
	case 3:
		p.a, p.v = p.a.Mul(p.b), v.Mul(p.v, p.w)
	case 4:
		p.a, p.v = p.a.Square(), v.Mul(p.v, p.v)
	case 5:
		p.a, p.v = p.a.Times(1<<32-1), v.Mul(p.v, big.NewInt(1<<32-1))
	case 6:
		p.a, p.v = p.a.Add(p.a), v.Lsh(p.v, 1)
	case 7:
		p.a, p.b = field.Swap(1<<64-1, p.a, p.b)
		p.v, p.w = p.w, p.v
	case 8:
		p.a, p.b = field.Swap(1<<64-2, p.a.Times(121666), p.b)
		p.v = v.Mul(p.v, big.NewInt(121666))
	case 9:
		p.a, p.b = p.a.Add(p.b), p.a.Sub(p.b)
		p.v, p.w = v.Add(p.v, p.w), left(new(big.Int).Sub(p.v, p.w))
	}
	p.v = left(p.v)
	return p
}

func (p pair) check(t *testing.T, when string) {
	t.Helper()
	same(t, when+": first", p.a, p.v)
	same(t, when+": second", p.b, p.w)
}

// What is handed in isn't changed, its spare room neither, and isn't seen any more behind the call.
func TestArgumentsAreNeitherChangedNorKept(t *testing.T) {
	for n := range 70 {
		b := row(n + 50)
		a := field.From(b[:n])
		if !bytes.Equal(b, row(n+50)) {
			t.Errorf("%d bytes: what was handed in, or its spare room, was changed", n)
		}
		want := a.Bytes()
		clear(b)
		if got := a.Bytes(); !bytes.Equal(got, want) {
			t.Errorf("%d bytes, written over behind the call: % x, not % x", n, got, want)
		}
	}
}

// Elements that are reckoned with are as they were, in whatever order, and the same one on both sides too.
func TestElementsStayAsTheyWere(t *testing.T) {
	rows := edges()
	for i, r := range rows {
		s := rows[(i+7)%len(rows)]
		a, b := field.From(r), field.From(s)
		a.Add(b)
		a.Sub(b)
		a.Mul(b)
		a.Square()
		a.Times(1<<32 - 1)
		a.Invert()
		a.Bytes()
		field.Swap(1, a, b)
		field.Swap(0, a, b)
		a.Add(a)
		a.Sub(a)
		a.Mul(a)
		field.Swap(1, a, a)
		c := a
		c = c.Add(b).Square()
		same(t, "a copy that was reckoned on with", c, new(big.Int).Exp(new(big.Int).Add(numberOf(r), numberOf(s)), big.NewInt(2), nil))
		same(t, "first handed in", a, numberOf(r))
		same(t, "second handed in", b, numberOf(s))
	}
}

// An element's bytes are new memory each time: they may be written over, their spare room too.
func TestAnswersShareNothing(t *testing.T) {
	for _, r := range edges() {
		a := field.From(r)
		first, second := a.Bytes(), a.Bytes()
		want := bytes.Clone(second)
		for i := range first[:cap(first)] {
			first[:cap(first)][i] ^= 0xff
		}
		if third := a.Bytes(); !bytes.Equal(second, want) || !bytes.Equal(third, want) {
			t.Errorf("% x: answers share memory: % x, % x, not % x", r, second, third, want)
		}
		again := field.From(want)
		for i := range want {
			want[i] ^= 0xff
		}
		if got := again.Bytes(); !bytes.Equal(got, second) {
			t.Errorf("% x: an element hangs on bytes that were handed in: % x, not % x", r, got, second)
		}
	}
}

// An answer hangs on what it is asked of alone, not on what was asked ahead.
func TestAnswersHangOnArgumentsAlone(t *testing.T) {
	a, b := field.From(row(elemLen)), field.From(drawn(9, elemLen))
	ask := func() []byte {
		c, d := field.Swap(3, a.Add(b).Mul(a.Sub(b)), b.Square().Times(121666))
		return append(c.Invert().Bytes(), d.Bytes()...)
	}
	first := ask()
	for _, r := range edges() {
		x := field.From(r)
		field.Swap(1, x.Mul(a), x.Sub(b).Invert())
		x.Times(19).Add(b).Bytes()
	}
	if again := ask(); !bytes.Equal(again, first) {
		t.Errorf("% x, not % x", again, first)
	}
}

// told: the bytes of the element that a row tells, which must be the reference's, and told again as the same.
func told(t *testing.T, b []byte) []byte {
	t.Helper()
	got := field.From(b).Bytes()
	if want := rowOf(left(numberOf(b[:min(len(b), elemLen)])), false); !bytes.Equal(got, want) {
		t.Errorf("%d bytes, first % x: % x, not % x", len(b), b[:min(len(b), elemLen)], got, want)
	}
	if again := field.From(got).Bytes(); !bytes.Equal(again, got) {
		t.Errorf("% x told again: % x", got, again)
	}
	return got
}

// both: the sum, the differences and the products of two.
func both(t *testing.T, a, b field.Elem, v, w *big.Int) {
	t.Helper()
	same(t, "sum", a.Add(b), new(big.Int).Add(v, w))
	same(t, "difference", a.Sub(b), new(big.Int).Sub(v, w))
	same(t, "product", a.Mul(b), new(big.Int).Mul(v, w))
	same(t, "product of the sum and the difference", a.Add(b).Mul(b.Sub(a)), new(big.Int).Mul(new(big.Int).Add(v, w), new(big.Int).Sub(w, v)))
}

// same: an element must be what is left of a number.
func same(t *testing.T, what string, a field.Elem, v *big.Int) {
	t.Helper()
	if got, want := a.Bytes(), rowOf(left(v), false); !bytes.Equal(got, want) {
		t.Errorf("%s: % x, not % x", what, got, want)
	}
}

func alike(t *testing.T, what string, a, b field.Elem) {
	t.Helper()
	if !bytes.Equal(a.Bytes(), b.Bytes()) {
		t.Errorf("%s: % x, % x", what, a.Bytes(), b.Bytes())
	}
}

// edges: rows that tell numbers around those at which something begins anew (0, the prime, its half, a limb's end), or all of whose bytes are alike, with the greatest bit and without.
func edges() [][]byte {
	var out [][]byte
	add := func(v *big.Int) {
		if v.Sign() >= 0 && v.BitLen() <= 255 {
			out = append(out, rowOf(v, false), rowOf(v, true))
		}
	}
	for _, off := range []int64{-21, -20, -19, -18, -2, -1, 0, 1, 2, 18, 19, 20, 38} {
		for _, around := range []*big.Int{new(big.Int), prime(), power(255), half()} {
			add(new(big.Int).Add(around, big.NewInt(off)))
		}
	}
	for _, bit := range []int{26, 51, 52, 64, 102, 128, 153, 192, 204, 230, 253, 254} {
		add(power(bit))
		add(new(big.Int).Sub(power(bit), big.NewInt(1)))
		add(new(big.Int).Sub(prime(), power(bit)))
	}
	for _, each := range []byte{0x01, 0x55, 0x7f, 0x80, 0xaa, 0xfe} {
		out = append(out, bytes.Repeat([]byte{each}, elemLen))
	}
	return out
}

// left: what is left of a number by the prime, from 0 on.
func left(v *big.Int) *big.Int { return new(big.Int).Mod(v, prime()) }

// prime: 2^255 - 19.
func prime() *big.Int { return new(big.Int).Sub(power(255), big.NewInt(19)) }

// half: half of the prime, rounded down.
func half() *big.Int { return new(big.Int).Rsh(prime(), 1) }

func power(bit int) *big.Int { return new(big.Int).Lsh(big.NewInt(1), uint(bit)) }

// numberOf: the number of the bytes, the least first, without the 32nd one's greatest bit, by the prime.
func numberOf(b []byte) *big.Int {
	turned := bytes.Clone(b)
	slices.Reverse(turned)
	v := new(big.Int).SetBytes(turned)
	return left(v.SetBit(v, 255, 0))
}

// rowOf: 32 bytes that tell a number of up to 255 bits, with the greatest bit or without.
func rowOf(v *big.Int, high bool) []byte {
	out := v.FillBytes(make([]byte, elemLen))
	slices.Reverse(out)
	if high {
		out[elemLen-1] |= 0x80
	}
	return out
}

func many(text string, times int) string { return string(bytes.Repeat([]byte(text), times)) }

// turned: the same bytes, but one bit.
func turned(b []byte, bit int) []byte {
	out := bytes.Clone(b)
	out[bit/8] ^= 1 << (bit % 8)
	return out
}

func unhex(t *testing.T, text string) []byte {
	t.Helper()
	b, ok := word.Unhex(text)
	if !ok {
		t.Fatalf("%q isn't hex", text)
	}
	return b
}

// row: n bytes of which hardly two neighbours are alike, the same each time, the fewer the beginning of the more.
func row(n int) []byte { return drawn(5, n) }

func drawn(seed int64, n int) []byte {
	b := make([]byte, n)
	rand.New(rand.NewSource(seed)).Read(b)
	return b
}
