package curve_test

import (
	"bytes"
	"crypto/ecdh"
	"math/big"
	"slices"
	"strconv"
	"testing"

	"orlop/api"
	"orlop/curve"
	"orlop/word"
)

// P8.1: scalars, points and secrets of RFC 7748, 5.2.
func TestPublishedSecrets(t *testing.T) {
	for _, c := range []struct{ scalar, point, secret string }{
		{
			"a546e36bf0527c9d3b16154b82465edd62144c0ac1fc5a18506a2244ba449ac4",
			"e6db6867583030db3594c1a424b15f7c726624ec26b3353b10a903a6d0ab1c4c",
			"c3da55379de9c6908e94ea4df28d084f32eccf03491c71f754b4075577a28552",
		},
		{
			"4b66e9d4d1b4673c5ad22691957d6af5c11b6421e0ea01d42ca4169e7918ba0d",
			"e5210f12786811d3f4b7959d0538ae2c31dbe7106fc03c3efc4cd549c715a493",
			"95cbde9476e8907d7aade45cb4b873f88b595a68799fa152e6f8f7647aac7957",
		},
	} {
		if got := shared(t, unhex(t, c.scalar), unhex(t, c.point)); word.Hex(got) != c.secret {
			t.Errorf("scalar %s: %x, not %s", c.scalar, got, c.secret)
		}
	}
}

// P8.1: RFC 7748, 5.2: what comes of each round is the next one's scalar, and the scalar the next one's point.
func TestPublishedRounds(t *testing.T) {
	want := map[int]string{
		1:    "422c8e7a6227d7bca1350b3e2bb7279f7897b87bb6854b783c60e80311ae3079",
		1000: "684cf59ba83309552800ef566f2f4d3c1c3887c49360e3875f2eb94d99532c51",
	}
	scalar := rowOf(big.NewInt(9))
	point := scalar
	for round := range 1000 {
		secret, code := curve.Shared(scalar, point)
		if code != api.OK {
			t.Fatalf("round %d: code %d", round+1, code)
		}
		scalar, point = secret, scalar
		if text, ok := want[round+1]; ok && word.Hex(scalar) != text {
			t.Errorf("round %d: %x, not %s", round+1, scalar, text)
		}
	}
}

// P8.1, P8.2: the two of RFC 7748, 6.1, their points, and what they share.
func TestPublishedPair(t *testing.T) {
	const secret = "4a5d9d5ba4ce2de1728e3bf480350f25e07e21c947d19e3376f09b3c1e161742"
	alice := unhex(t, "77076d0a7318a57d3c16c17251b26645df4c2f87ebc0992ab177fba51db92c2a")
	bob := unhex(t, "5dab087e624a8a4b79e17f8b83800ee66f3bb1292618b6fd1c2f8b27ff88e0eb")
	alices, bobs := public(t, alice), public(t, bob)
	if text := word.Hex(alices); text != "8520f0098930a754748b7ddcb43ef75a0dbf3a0d26381af4eba4a98eaa9b4e6a" {
		t.Errorf("Alice's point: %s", text)
	}
	if text := word.Hex(bobs); text != "de9edb7d7b7dc1b4d35b61c2ece435373f8343c85b78674dadfc7e146f882b4f" {
		t.Errorf("Bob's point: %s", text)
	}
	if text := word.Hex(shared(t, alice, bobs)); text != secret {
		t.Errorf("Alice's: %s, not %s", text, secret)
	}
	if text := word.Hex(shared(t, bob, alices)); text != secret {
		t.Errorf("Bob's: %s, not %s", text, secret)
	}
}

// P8.1: all first and last bytes, each with each; what lies between them stays as it is.
func TestClampFirstAndLastBytes(t *testing.T) {
	for _, between := range [][]byte{make([]byte, rowLen), row(rowLen), bytes.Repeat([]byte{0xff}, rowLen)} {
		for first := range 256 {
			for last := range 256 {
				scalar := bytes.Clone(between)
				scalar[0], scalar[rowLen-1] = byte(first), byte(last)
				want := bytes.Clone(scalar)
				want[0] = byte(first / 8 * 8)
				want[rowLen-1] = byte(64 + last%64)
				if got, code := curve.Clamp(scalar); code != api.OK || !bytes.Equal(got, want) {
					t.Fatalf("%x: %x, code %d, not %x", scalar, got, code, want)
				}
			}
		}
	}
}

// P8.1: each bit of a scalar, and all its bytes, when it is clamped.
func TestClampEachBit(t *testing.T) {
	for _, scalar := range append(scalars(), edges()...) {
		clamped(t, scalar)
	}
	for seed := range int64(1000) {
		clamped(t, drawn(seed, rowLen))
	}
	for _, begin := range [][]byte{make([]byte, rowLen), row(rowLen), bytes.Repeat([]byte{0xff}, rowLen)} {
		for bit := range 8 * rowLen {
			clamped(t, turned(begin, bit))
		}
	}
}

// P8.1: ErrArg, and no bytes, for scalars and points of each length that isn't 32, ahead of what a point is refused for.
func TestRowsOfOtherLengths(t *testing.T) {
	wrong := []int{255, 256, 287, 288, 289, 1000, 1 << 16, 1<<16 + rowLen}
	for n := range 200 {
		if n != rowLen {
			wrong = append(wrong, n)
		}
	}
	for _, n := range wrong {
		noSuch(t, row(n), other(rowLen))
		noSuch(t, make([]byte, n), other(rowLen))
		noSuch(t, bytes.Repeat([]byte{0xff}, n), other(rowLen))
		noSuch(t, row(n + rowLen)[:n], other(rowLen)) // with as many bytes as a scalar's in its spare room
	}
	noSuch(t, nil, other(rowLen))
	noSuch(t, row(rowLen)[rowLen:], other(rowLen))
}

// noSuch: bytes that are no scalar, and no point, beside others that are both.
func noSuch(t *testing.T, wrong, right []byte) {
	t.Helper()
	what := strconv.Itoa(len(wrong)) + " bytes"
	got, code := curve.Clamp(wrong)
	refused(t, "clamped, "+what, got, code, api.ErrArg)
	got, code = curve.Public(wrong)
	refused(t, "told the point of, "+what, got, code, api.ErrArg)
	got, code = curve.Shared(right, wrong)
	refused(t, "shared as a point, "+what, got, code, api.ErrArg)
	for _, point := range [][]byte{right, wrong, make([]byte, rowLen), rowOf(prime()), make([]byte, len(wrong)), nil} {
		got, code = curve.Shared(wrong, point)
		refused(t, "shared as a scalar, "+what+", with a point of "+strconv.Itoa(len(point)), got, code, api.ErrArg)
	}
}

// P8.1: scalars all of whose bytes are 0, or FF, or otherwise alike; and those that are clamped already.
func TestScalarsOfLikeBytes(t *testing.T) {
	points := [][]byte{rowOf(big.NewInt(9)), rowOf(big.NewInt(2)), row(rowLen), other(rowLen), bytes.Repeat([]byte{0xff}, rowLen)}
	for _, scalar := range scalars() {
		public(t, scalar)
		for _, point := range points {
			shared(t, scalar, point)
			shared(t, clamped(t, scalar), point)
		}
	}
}

// P8.1: ErrLowOrder, and no bytes, for the points that come to all bytes 0, with the greatest bit and without, and beyond the prime, by whatever scalar.
func TestPointsOfLowOrder(t *testing.T) {
	var points [][]byte
	for _, v := range ofLowOrder() {
		for _, told := range []*big.Int{v, new(big.Int).Add(v, prime())} {
			if told.BitLen() <= 255 {
				points = append(points, rowOf(told), withGreatestBit(rowOf(told)))
			}
		}
	}
	if len(points) != 14 {
		t.Fatalf("%d points, not 14", len(points))
	}
	for _, scalar := range append(scalars(), drawn(77, rowLen), drawn(78, rowLen)) {
		for _, point := range points {
			got, code := curve.Shared(scalar, point)
			refused(t, "scalar "+word.Hex(scalar)+", point "+word.Hex(point), got, code, api.ErrLowOrder)
		}
	}
	for _, point := range points {
		shared(t, row(rowLen), point)
	}
}

// P8.1: points around those at which something begins anew, among them 0, the prime, and numbers beyond it.
func TestPointsAtEdges(t *testing.T) {
	for _, point := range edges() {
		for _, scalar := range [][]byte{row(rowLen), make([]byte, rowLen), bytes.Repeat([]byte{0xff}, rowLen)} {
			shared(t, scalar, point)
		}
	}
}

// P8.1: points that tell a number from the prime on are those that tell what is left of it.
func TestPointsBeyondThePrime(t *testing.T) {
	for n := range int64(19) {
		less, beyond := rowOf(big.NewInt(n)), rowOf(new(big.Int).Add(prime(), big.NewInt(n)))
		for _, scalar := range scalars()[:4] {
			want, wantCode := curve.Shared(scalar, less)
			for _, point := range [][]byte{beyond, withGreatestBit(less), withGreatestBit(beyond)} {
				if got, code := curve.Shared(scalar, point); code != wantCode || !bytes.Equal(got, want) {
					t.Errorf("%d and the prime, %x: %x, code %d, not %x, code %d", n, point, got, code, want, wantCode)
				}
			}
		}
	}
}

// P8.1: points one of whose bytes, or bits, alone isn't 0.
func TestPointsOfOneByte(t *testing.T) {
	for at := range rowLen {
		for _, v := range []byte{1, 2, 0x80, 0xff} {
			point := make([]byte, rowLen)
			point[at] = v
			shared(t, row(rowLen), point)
		}
	}
}

// P8.1: secrets one of whose bytes alone isn't 0 are told: these aren't all 0. The point of which such a one is told is found by the number that with the scalar's is 1 by the order.
func TestSecretsOfOneByte(t *testing.T) {
	scalar := row(rowLen)
	back := new(big.Int).ModInverse(clampedNumber(scalar), order())
	for at := range rowLen {
		secret := ofOrder(t, at)
		point := rowOf(multiple(back, element(secret)))
		if got, code := curve.Shared(scalar, point); code != api.OK || !bytes.Equal(got, secret) {
			t.Errorf("byte %d: %x, code %d, not %x", at, got, code, secret)
		}
	}
}

// ofOrder: a point of which one byte alone isn't 0, and which has 9's order: by that it comes to 0, and by one more to itself. (What has twice that order comes to 0, too.)
func ofOrder(t *testing.T, at int) []byte {
	t.Helper()
	for v := 1; v < 256 && (at < rowLen-1 || v < 128); v++ {
		point := make([]byte, rowLen)
		point[at] = byte(v)
		u := element(point)
		more := new(big.Int).Add(order(), big.NewInt(1))
		if u.Cmp(big.NewInt(1)) > 0 && multiple(order(), u).Sign() == 0 && multiple(more, u).Cmp(u) == 0 {
			return point
		}
	}
	t.Fatalf("no point of byte %d alone", at)
	return nil
}

// P8.1: of a number that is one less than a multiple of the order, the ladder tells the point itself, if it is one of 9's multiples.
func TestNumbersOneLessThanTheOrder(t *testing.T) {
	k := new(big.Int).Mul(order(), big.NewInt(5))
	scalar := rowOf(k.Sub(k, big.NewInt(1)))
	if got := clamped(t, scalar); !bytes.Equal(got, scalar) {
		t.Fatalf("%x isn't clamped", scalar)
	}
	if got := public(t, scalar); !bytes.Equal(got, rowOf(big.NewInt(9))) {
		t.Errorf("its point: %x, not 9", got)
	}
	for seed := range int64(20) {
		point := public(t, drawn(seed, rowLen))
		if got := shared(t, scalar, point); !bytes.Equal(got, point) {
			t.Errorf("point %x: %x", point, got)
		}
	}
}

// P8.1: Public tells what is shared with the point 9, and is never refused; numbers near multiples of the order among them.
func TestPublicIsNeverOfLowOrder(t *testing.T) {
	all := scalars()
	for times := range int64(8) {
		for off := int64(-24); off <= 24; off++ {
			k := new(big.Int).Mul(order(), big.NewInt(times))
			if k.Add(k, big.NewInt(off)); k.Sign() >= 0 {
				all = append(all, rowOf(k))
			}
		}
	}
	for bit := range 8 * rowLen {
		all = append(all, turned(make([]byte, rowLen), bit), turned(bytes.Repeat([]byte{0xff}, rowLen), bit))
	}
	for seed := range int64(200) {
		all = append(all, drawn(seed, rowLen))
	}
	for _, scalar := range all {
		want := public(t, scalar)
		for _, nine := range [][]byte{rowOf(big.NewInt(9)), rowOf(new(big.Int).Add(prime(), big.NewInt(9)))} {
			if got, code := curve.Shared(scalar, nine); code != api.OK || !bytes.Equal(got, want) {
				t.Errorf("scalar %x: %x, code %d with the point 9, not %x", scalar, got, code, want)
			}
		}
	}
}

// P8.1: many scalars and points, drawn.
func TestManyScalarsAndPoints(t *testing.T) {
	for seed := range int64(500) {
		b := drawn(1000+seed, 2*rowLen)
		shared(t, b[:rowLen], b[rowLen:])
	}
}

// P8.1: likewise, held to the library's.
func TestManyAgainstTheLibrary(t *testing.T) {
	points := edges()
	for seed := range int64(4000) {
		b := drawn(2000+seed, 2*rowLen)
		scalar, point := b[:rowLen], b[rowLen:]
		if seed%2 == 1 {
			point = points[int(seed/2)%len(points)]
		}
		own, err := ecdh.X25519().NewPrivateKey(scalar)
		if err != nil {
			t.Fatal(err)
		}
		others, err := ecdh.X25519().NewPublicKey(point)
		if err != nil {
			t.Fatal(err)
		}
		want, err := own.ECDH(others)
		if got, code := curve.Shared(scalar, point); (code == api.OK) != (err == nil) || !bytes.Equal(got, want) {
			t.Errorf("scalar %x, point %x: %x, code %d, not %x, %v", scalar, point, got, code, want, err)
		}
		if got, code := curve.Public(scalar); code != api.OK || !bytes.Equal(got, own.PublicKey().Bytes()) {
			t.Errorf("scalar %x: %x, code %d, not %x", scalar, got, code, own.PublicKey().Bytes())
		}
	}
}

// P8.2: of any two scalars what one tells of the other's point is what the other tells of the one's; and two that tell one behind the other of a third point, in either order.
func TestTwoShare(t *testing.T) {
	all := scalars()
	for seed := range int64(10) {
		all = append(all, drawn(3000+seed, rowLen))
	}
	for i, a := range all {
		for _, b := range all[:i+1] {
			if one, two := told(t, a, point(t, b)), told(t, b, point(t, a)); !bytes.Equal(one, two) {
				t.Errorf("%x, %x: %x, %x", a, b, one, two)
			}
			third := other(rowLen)
			if one, two := told(t, a, told(t, b, third)), told(t, b, told(t, a, third)); !bytes.Equal(one, two) {
				t.Errorf("%x, %x of a third: %x, %x", a, b, one, two)
			}
		}
	}
	for seed := range int64(500) {
		a, b := drawn(4000+seed, rowLen), drawn(5000+seed, rowLen)
		if one, two := told(t, a, point(t, b)), told(t, b, point(t, a)); !bytes.Equal(one, two) {
			t.Errorf("%x, %x: %x, %x", a, b, one, two)
		}
	}
}

// P8.2: each bit that clamping fixes turned, alone and together with others, and the point's greatest bit: the answers stay.
func TestBitsThatDoNotMatter(t *testing.T) {
	for seed := range int64(20) {
		scalar, at := drawn(6000+seed, rowLen), drawn(7000+seed, rowLen)
		wantClamped, wantShared, wantPublic := clamped(t, scalar), shared(t, scalar, at), public(t, scalar)
		for set := range 32 {
			same := bytes.Clone(scalar)
			for i, bit := range []int{0, 1, 2, 254, 255} {
				if set>>i&1 == 1 {
					same = turned(same, bit)
				}
			}
			if got, code := curve.Clamp(same); code != api.OK || !bytes.Equal(got, wantClamped) {
				t.Errorf("%x: clamped %x, code %d, not %x", same, got, code, wantClamped)
			}
			if got := point(t, same); !bytes.Equal(got, wantPublic) {
				t.Errorf("%x: point %x, not %x", same, got, wantPublic)
			}
			for _, p := range [][]byte{at, turned(at, 255)} {
				if got := told(t, same, p); !bytes.Equal(got, wantShared) {
					t.Errorf("%x, point %x: %x, not %x", same, p, got, wantShared)
				}
			}
		}
	}
}

// P8.1, P8.2: no other bit goes without a change.
func TestBitsThatMatter(t *testing.T) {
	scalar, at := row(rowLen), other(rowLen)
	wantClamped, wantShared, wantPublic := clamped(t, scalar), shared(t, scalar, at), public(t, scalar)
	for bit := range 255 {
		if got := shared(t, scalar, turned(at, bit)); bytes.Equal(got, wantShared) {
			t.Errorf("the point's bit %d doesn't matter", bit)
		}
		if _, is := fixed()[bit]; is {
			continue
		}
		unlike := turned(scalar, bit)
		if bytes.Equal(clamped(t, unlike), wantClamped) || bytes.Equal(shared(t, unlike, at), wantShared) || bytes.Equal(public(t, unlike), wantPublic) {
			t.Errorf("the scalar's bit %d doesn't matter", bit)
		}
	}
}

// P8.2: a scalar that is clamped is clamped to itself, and shares and tells what it did.
func TestClampedScalars(t *testing.T) {
	all := scalars()
	for seed := range int64(100) {
		all = append(all, drawn(8000+seed, rowLen))
	}
	for _, scalar := range all {
		once := clamped(t, scalar)
		if twice := clamped(t, once); !bytes.Equal(twice, once) {
			t.Errorf("%x clamped twice: %x, once %x", scalar, twice, once)
		}
		if one, two := told(t, scalar, other(rowLen)), told(t, once, other(rowLen)); !bytes.Equal(one, two) {
			t.Errorf("%x: %x, clamped %x", scalar, one, two)
		}
		if one, two := point(t, scalar), point(t, once); !bytes.Equal(one, two) {
			t.Errorf("%x: point %x, clamped %x", scalar, one, two)
		}
	}
}

// calls are all that the layer has, each with a scalar and a point.
func calls() map[string]func(scalar, point []byte) ([]byte, api.Code) {
	return map[string]func(scalar, point []byte) ([]byte, api.Code){
		"Clamp":  func(scalar, _ []byte) ([]byte, api.Code) { return curve.Clamp(scalar) },
		"Shared": curve.Shared,
		"Public": func(scalar, _ []byte) ([]byte, api.Code) { return curve.Public(scalar) },
	}
}

// What is handed in isn't changed, its spare room neither, and isn't seen any more behind the call; nor does what lies there, or ahead, count.
func TestArgumentsAreNeitherChangedNorKept(t *testing.T) {
	for _, scalar := range append(scalars(), clamped(t, row(rowLen))) {
		for name, call := range calls() {
			want, code := call(slices.Clip(bytes.Clone(scalar)), slices.Clip(other(rowLen)))
			if code != api.OK {
				t.Fatalf("%s of %x: code %d", name, scalar, code)
			}
			whole := slices.Concat(drawn(1, 7), scalar, drawn(2, 9), other(rowLen), drawn(3, 40))
			kept := bytes.Clone(whole)
			got, code := call(whole[7:39], whole[48:80])
			if code != api.OK || !bytes.Equal(got, want) {
				t.Errorf("%s of %x: %x with other bytes beside, code %d, not %x", name, scalar, got, code, want)
			}
			if !bytes.Equal(whole, kept) {
				t.Errorf("%s of %x: what was handed in, or its spare room, was changed", name, scalar)
			}
			for i := range whole {
				whole[i] ^= 0xff
			}
			if !bytes.Equal(got, want) {
				t.Errorf("%s of %x, written over behind the call: %x, not %x", name, scalar, got, want)
			}
		}
	}
}

// A call that is refused changes nothing either.
func TestRefusedArgumentsAreNotChanged(t *testing.T) {
	for name, call := range calls() {
		scalar, point := bytes.Repeat([]byte{0xff}, 3*rowLen), withGreatestBit(rowOf(prime()))
		point = append(point, drawn(4, 2*rowLen)...)
		keptScalar, keptPoint := bytes.Clone(scalar), bytes.Clone(point)
		for _, n := range [][2]int{{32, 32}, {0, 32}, {31, 32}, {33, 32}, {32, 0}, {32, 31}, {32, 33}, {96, 96}} {
			call(scalar[:n[0]], point[:n[1]])
			if !bytes.Equal(scalar, keptScalar) || !bytes.Equal(point, keptPoint) {
				t.Errorf("%s of %v bytes: what was handed in was changed", name, n)
			}
		}
	}
}

// The same bytes may be handed in as a scalar and as a point, or bytes that overlap.
func TestArgumentsThatShareMemory(t *testing.T) {
	whole := row(2 * rowLen)
	for at := range rowLen + 1 {
		want := shared(t, row(2 * rowLen)[:rowLen], row(2 * rowLen)[at:at+rowLen])
		if got, code := curve.Shared(whole[:rowLen], whole[at:at+rowLen]); code != api.OK || !bytes.Equal(got, want) {
			t.Errorf("a point from the scalar's byte %d on: %x, code %d, not %x", at, got, code, want)
		}
	}
	if !bytes.Equal(whole, row(2*rowLen)) {
		t.Error("what was handed in was changed")
	}
}

// What is answered is new memory each time: it may be written over, its spare room too.
func TestAnswersShareNothing(t *testing.T) {
	for _, scalar := range append(scalars(), clamped(t, row(rowLen))) {
		for name, call := range calls() {
			own, at := bytes.Clone(scalar), other(rowLen)
			first, _ := call(own, at)
			second, _ := call(own, at)
			want := bytes.Clone(second)
			for i := range first[:cap(first)] {
				first[:cap(first)][i] ^= 0xff
			}
			if third, code := call(own, at); code != api.OK || !bytes.Equal(second, want) || !bytes.Equal(third, want) {
				t.Errorf("%s of %x: answers share memory: %x, %x, not %x", name, scalar, second, third, want)
			}
			if !bytes.Equal(own, scalar) || !bytes.Equal(at, other(rowLen)) {
				t.Errorf("%s of %x: an answer shares memory with what was handed in", name, scalar)
			}
		}
	}
}

// An answer hangs on the arguments alone, not on what was asked ahead, refused calls among that.
func TestAnswersHangOnArgumentsAlone(t *testing.T) {
	for name, call := range calls() {
		first, _ := call(row(rowLen), other(rowLen))
		for _, scalar := range scalars() {
			curve.Clamp(scalar)
			curve.Shared(scalar, row(rowLen))
			curve.Shared(scalar, make([]byte, rowLen))
			curve.Shared(scalar[1:], nil)
			curve.Public(scalar)
			curve.Public(nil)
		}
		if again, code := call(row(rowLen), other(rowLen)); code != api.OK || !bytes.Equal(again, first) {
			t.Errorf("%s: %x, code %d, not %x", name, again, code, first)
		}
	}
}

// told: what a scalar and a point share, which must be something.
func told(t *testing.T, scalar, at []byte) []byte {
	t.Helper()
	got, code := curve.Shared(scalar, at)
	if code != api.OK || len(got) != rowLen {
		t.Fatalf("scalar %x, point %x: %x, code %d", scalar, at, got, code)
	}
	return got
}

// point: a scalar's.
func point(t *testing.T, scalar []byte) []byte {
	t.Helper()
	got, code := curve.Public(scalar)
	if code != api.OK || len(got) != rowLen {
		t.Fatalf("scalar %x: %x, code %d", scalar, got, code)
	}
	return got
}
