package curve_test

import (
	"bytes"
	"math/big"
	"math/rand"
	"slices"
	"testing"

	"orlop/api"
	"orlop/curve"
	"orlop/word"
)

const rowLen = 32

// fraction: a point, told by x and z. Of none z is 0.
type fraction struct{ x, z *big.Int }

// multiple: what the ladder of a number and an element tells, reckoned another way: with numbers of any size, by the sums and doubles of the curve y² = x³ + 486662 x² + x, and nothing changed about.
func multiple(k, u *big.Int) *big.Int {
	low, next := fraction{big.NewInt(1), big.NewInt(0)}, fraction{u, big.NewInt(1)}
	for i := range 255 {
		both := sum(low, next, u)
		if k.Bit(254-i) == 0 {
			low, next = doubled(low), both
		} else {
			low, next = both, doubled(next)
		}
	}
	if low.z.Sign() == 0 {
		return new(big.Int)
	}
	return left(new(big.Int).Mul(low.x, new(big.Int).ModInverse(low.z, prime())))
}

// sum: of two points that differ by u's.
func sum(p, q fraction, u *big.Int) fraction {
	x := new(big.Int).Sub(new(big.Int).Mul(p.x, q.x), new(big.Int).Mul(p.z, q.z))
	z := new(big.Int).Sub(new(big.Int).Mul(p.x, q.z), new(big.Int).Mul(p.z, q.x))
	return fraction{left(x.Mul(x, x)), left(z.Mul(z, z).Mul(z, u))}
}

// doubled: x is (x² - z²)², z is 4 x z (x² + 486662 x z + z²).
func doubled(p fraction) fraction {
	xx, zz, xz := new(big.Int).Mul(p.x, p.x), new(big.Int).Mul(p.z, p.z), new(big.Int).Mul(p.x, p.z)
	x := new(big.Int).Sub(xx, zz)
	z := new(big.Int).Mul(xz, big.NewInt(486662))
	z.Add(z, xx).Add(z, zz).Mul(z, xz)
	return fraction{left(x.Mul(x, x)), left(z.Lsh(z, 2))}
}

// clampedNumber: the number of a scalar that is clamped, bit by bit.
func clampedNumber(scalar []byte) *big.Int {
	k := numberOf(scalar)
	for bit, to := range fixed() {
		k.SetBit(k, bit, to)
	}
	return k
}

// fixed: the bits that clamping fixes, and what they are then.
func fixed() map[int]uint { return map[int]uint{0: 0, 1: 0, 2: 0, 254: 1, 255: 0} }

// element: the one that a point tells.
func element(point []byte) *big.Int {
	v := numberOf(point)
	return left(v.SetBit(v, 255, 0))
}

// shared: what Shared tells, which must be the reference's: ErrLowOrder, and no bytes, if they would all be 0.
func shared(t *testing.T, scalar, point []byte) []byte {
	t.Helper()
	want, wantCode := rowOf(multiple(clampedNumber(scalar), element(point))), api.OK
	if bytes.Equal(want, make([]byte, rowLen)) {
		want, wantCode = nil, api.ErrLowOrder
	}
	got, code := curve.Shared(scalar, point)
	if code != wantCode || !bytes.Equal(got, want) {
		t.Errorf("scalar %x, point %x: %x, code %d, not %x, code %d", scalar, point, got, code, want, wantCode)
	}
	return got
}

// public: what Public tells, which must be the reference's.
func public(t *testing.T, scalar []byte) []byte {
	t.Helper()
	want := rowOf(multiple(clampedNumber(scalar), big.NewInt(9)))
	got, code := curve.Public(scalar)
	if code != api.OK || !bytes.Equal(got, want) {
		t.Errorf("scalar %x: %x, code %d, not %x", scalar, got, code, want)
	}
	return got
}

// clamped: what Clamp tells, which must be so bit by bit.
func clamped(t *testing.T, scalar []byte) []byte {
	t.Helper()
	got, code := curve.Clamp(scalar)
	if want := rowOf(clampedNumber(scalar)); code != api.OK || !bytes.Equal(got, want) {
		t.Errorf("scalar %x: clamped %x, code %d, not %x", scalar, got, code, want)
	}
	return got
}

// refused: no bytes, for this reason.
func refused(t *testing.T, what string, got []byte, code, want api.Code) {
	t.Helper()
	if code != want || len(got) != 0 {
		t.Errorf("%s: %x, code %d, not %d", what, got, code, want)
	}
}

// edges: points that tell numbers around those at which something begins anew (0, the prime, its half, a limb's end), or all of whose bytes are alike, with the greatest bit and without.
func edges() [][]byte {
	var out [][]byte
	add := func(v *big.Int) {
		if v.Sign() >= 0 && v.BitLen() <= 255 {
			out = append(out, rowOf(v), withGreatestBit(rowOf(v)))
		}
	}
	for _, off := range []int64{-21, -20, -19, -18, -9, -2, -1, 0, 1, 2, 3, 4, 8, 9, 10, 18, 19, 20, 38} {
		for _, around := range []*big.Int{new(big.Int), prime(), power(255), new(big.Int).Rsh(prime(), 1)} {
			add(new(big.Int).Add(around, big.NewInt(off)))
		}
	}
	for _, bit := range []int{26, 51, 64, 102, 128, 153, 192, 204, 230, 253, 254} {
		add(power(bit))
		add(new(big.Int).Sub(power(bit), big.NewInt(1)))
		add(new(big.Int).Sub(prime(), power(bit)))
	}
	for _, v := range ofLowOrder() {
		for _, off := range []int64{-1, 0, 1} {
			add(new(big.Int).Add(v, big.NewInt(off)))
		}
	}
	for _, each := range []byte{0x01, 0x55, 0x7f, 0x80, 0xaa, 0xfe} {
		out = append(out, bytes.Repeat([]byte{each}, rowLen))
	}
	return out
}

// ofLowOrder: the elements that come to 0 by every number that is a multiple of 8: 0, 1, -1, and the two that doubled come to 1.
func ofLowOrder() []*big.Int {
	minus := new(big.Int).Sub(prime(), big.NewInt(1))
	return []*big.Int{
		big.NewInt(0), big.NewInt(1), minus,
		number("325606250916557431795983626356110631294008115727848805560023387167927233504"),
		number("39382357235489614581723060781553021112529911719440698176882885853963445705823"),
	}
}

// scalars: those of which much is alike, and some others.
func scalars() [][]byte {
	var out [][]byte
	for _, each := range []byte{0x00, 0x01, 0x07, 0x08, 0x3f, 0x40, 0x55, 0x7f, 0x80, 0xaa, 0xf8, 0xff} {
		out = append(out, bytes.Repeat([]byte{each}, rowLen))
	}
	for _, bit := range []int{0, 3, 63, 64, 127, 128, 253, 254, 255} {
		out = append(out, turned(make([]byte, rowLen), bit), turned(bytes.Repeat([]byte{0xff}, rowLen), bit))
	}
	for n := range 6 {
		out = append(out, drawn(int64(900+n), rowLen))
	}
	return out
}

// order: how many multiples the point of 9 has, which is a prime.
func order() *big.Int {
	return new(big.Int).Add(power(252), number("27742317777372353535851937790883648493"))
}

// left: what is left of a number by the prime, from 0 on.
func left(v *big.Int) *big.Int { return new(big.Int).Mod(v, prime()) }

// prime: 2^255 - 19.
func prime() *big.Int { return new(big.Int).Sub(power(255), big.NewInt(19)) }

func power(bit int) *big.Int { return new(big.Int).Lsh(big.NewInt(1), uint(bit)) }

func number(digits string) *big.Int {
	v, _ := new(big.Int).SetString(digits, 10)
	return v
}

// numberOf: the number of the bytes, the least first.
func numberOf(b []byte) *big.Int {
	greatestFirst := bytes.Clone(b)
	slices.Reverse(greatestFirst)
	return new(big.Int).SetBytes(greatestFirst)
}

// rowOf: a number's 32 bytes, the least first.
func rowOf(v *big.Int) []byte {
	out := v.FillBytes(make([]byte, rowLen))
	slices.Reverse(out)
	return out
}

func withGreatestBit(b []byte) []byte {
	out := bytes.Clone(b)
	out[rowLen-1] |= 0x80
	return out
}

// turned: the same bytes, but one bit.
func turned(b []byte, bit int) []byte {
	out := bytes.Clone(b)
	out[bit/8] ^= 1 << (bit % 8)
	return out
}

func unhex(t *testing.T, text string) []byte {
	t.Helper()
	b, ok := word.Unhex(text)
	if !ok {
		t.Fatalf("%q isn't hex", text)
	}
	return b
}

// row: n bytes of which hardly two neighbours are alike, the same each time, the fewer the beginning of the more.
func row(n int) []byte { return drawn(5, n) }

// other: as row, other bytes.
func other(n int) []byte { return drawn(6, n) }

func drawn(seed int64, n int) []byte {
	b := make([]byte, n)
	rand.New(rand.NewSource(seed)).Read(b)
	return b
}
