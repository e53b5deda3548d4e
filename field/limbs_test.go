package field

import (
	"bytes"
	"go/ast"
	"go/parser"
	"go/token"
	"math/big"
	"slices"
	"testing"
)

// bound: what each limb is less than.
const bound = 1<<51 + 1<<18

// P7.1, P7.2: elements whose limbs are as great as they may be, which no row tells at once; nor do answers have greater ones.
func TestLimbsAsGreatAsTheyMayBe(t *testing.T) {
	all := ofGreatLimbs()
	for i, a := range all {
		checkLimbs(t, "itself", a, number(a))
		one(t, a)
		for j := range 5 {
			two(t, a, all[(i+j*j*997)%len(all)])
		}
	}
}

// P7.2: limbs that may have all 64 bits are carried in one round.
func TestFullLimbsAreCarried(t *testing.T) {
	limbs := []uint64{0, 1, 1<<51 - 1, 1 << 51, 1<<64 - 1<<51, 1<<64 - 1}
	for i := range len(limbs) * len(limbs) * len(limbs) * len(limbs) * len(limbs) {
		var n [5]uint64
		for j, rest := 0, i; j < len(n); j, rest = j+1, rest/len(limbs) {
			n[j] = limbs[rest%len(limbs)]
		}
		checkLimbs(t, "carried", carried(n[0], n[1], n[2], n[3], n[4]), number(Elem{n}))
	}
}

// ofGreatLimbs: elements of limbs around where something begins anew, in every order.
func ofGreatLimbs() []Elem {
	limbs := []uint64{0, 1<<51 - 20, 1<<51 - 19, 1<<51 - 1, 1 << 51, bound - 1}
	all := []Elem{{}}
	for i := range 5 {
		var more []Elem
		for _, e := range all {
			for _, v := range limbs {
				e.n[i] = v
				more = append(more, e)
			}
		}
		all = more
	}
	return all
}

func one(t *testing.T, a Elem) {
	t.Helper()
	v := number(a)
	checkLimbs(t, "square", a.Square(), new(big.Int).Mul(v, v))
	checkLimbs(t, "times", a.Times(1<<32-1), new(big.Int).Mul(v, big.NewInt(1<<32-1)))
	checkLimbs(t, "sum with itself", a.Add(a), new(big.Int).Lsh(v, 1))
	checkLimbs(t, "difference with itself", a.Sub(a), new(big.Int))
	checkLimbs(t, "less than 0", Elem{}.Sub(a), new(big.Int).Neg(v))
}

func two(t *testing.T, a, b Elem) {
	t.Helper()
	v, w := number(a), number(b)
	checkLimbs(t, "sum", a.Add(b), new(big.Int).Add(v, w))
	checkLimbs(t, "difference", a.Sub(b), new(big.Int).Sub(v, w))
	checkLimbs(t, "product", a.Mul(b), new(big.Int).Mul(v, w))
	c, d := Swap(1, a, b)
	if e, f := Swap(2, a, b); c != b || d != a || e != a || f != b {
		t.Errorf("%v, %v: changed about %v, %v, and not %v, %v", a.n, b.n, c.n, d.n, e.n, f.n)
	}
}

// checkLimbs: an element must be what is left of a number, in limbs that are small enough.
func checkLimbs(t *testing.T, what string, a Elem, v *big.Int) {
	t.Helper()
	for i, limb := range a.n {
		if limb >= bound {
			t.Errorf("%s: limb %d is %x", what, i, limb)
		}
	}
	prime := new(big.Int).Sub(new(big.Int).Lsh(big.NewInt(1), 255), big.NewInt(19))
	want := new(big.Int).Mod(v, prime).FillBytes(make([]byte, elemLen))
	slices.Reverse(want)
	if got := a.Bytes(); !bytes.Equal(got, want) {
		t.Errorf("%s: limbs %x: % x, not % x", what, a.n, got, want)
	}
}

// number: what the limbs are worth.
func number(a Elem) *big.Int {
	out := new(big.Int)
	for i := range a.n {
		out.Lsh(out, limbBits)
		out.Add(out, new(big.Int).SetUint64(a.n[len(a.n)-1-i]))
	}
	return out
}

// P7.2: Swap does the same work for both. No answer tells that, and a clock tells it badly; but whatever asks of a value what to do, or where to look, is seen in the text: a question, a place that was reckoned, a call that might ask.
func TestSwapAsksNothing(t *testing.T) {
	file, err := parser.ParseFile(token.NewFileSet(), "field.go", nil, 0)
	if err != nil {
		t.Fatal(err)
	}
	found := false
	for _, d := range file.Decls {
		if f, ok := d.(*ast.FuncDecl); ok && f.Recv == nil && f.Name.Name == "Swap" {
			found = true
			ast.Inspect(f.Body, func(n ast.Node) bool {
				if n != nil && asks(n) {
					t.Errorf("Swap asks: %T", n)
				}
				return true
			})
		}
	}
	if !found {
		t.Error("no Swap in field.go")
	}
}

func asks(n ast.Node) bool {
	switch x := n.(type) {
	case *ast.IfStmt, *ast.SwitchStmt, *ast.TypeSwitchStmt, *ast.SelectStmt, *ast.ForStmt, *ast.BranchStmt, *ast.CallExpr, *ast.SliceExpr, *ast.FuncLit:
		return true
	case *ast.IndexExpr:
		place, plain := x.Index.(*ast.Ident)
		return !plain || place.Name != "i"
	case *ast.RangeStmt:
		over, plain := x.X.(*ast.SelectorExpr)
		return !plain || over.Sel.Name != "n"
	case *ast.BinaryExpr:
		return slices.Contains([]token.Token{token.LAND, token.LOR, token.QUO, token.REM, token.SHL, token.SHR}, x.Op)
	}
	return false
}
