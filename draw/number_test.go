package draw

import (
	"math/big"
	"testing"

	"beacon/api"
)

func exactValue(n *number) *big.Int {
	value := new(big.Int)
	for i := len(n.digits) - 1; i >= 0; i-- {
		value.Mul(value, big.NewInt(digitBase))
		value.Add(value, big.NewInt(int64(n.digits[i])))
	}
	return value
}

func TestMultiplyPower(t *testing.T) {
	for _, factor := range []int{1, 2, 19, 20, 1023, api.Sides} {
		for _, exponent := range []int{0, 1, 4, 5, 6, 100, 240} {
			n := one()
			n.multiplyPower(20, 240)
			n.multiplyPower(factor, exponent)
			want := new(big.Int).Exp(big.NewInt(20), big.NewInt(240), nil)
			want.Mul(want, new(big.Int).Exp(big.NewInt(int64(factor)), big.NewInt(int64(exponent)), nil))
			if exactValue(n).Cmp(want) != 0 {
				t.Errorf("20^240 * %d^%d is %v, want %v", factor, exponent, exactValue(n), want)
			}
		}
	}
}

func TestDigitsStayBelowBase(t *testing.T) {
	n := &number{digits: []int{digitBase - 1, digitBase - 1, digitBase - 1}}
	want := new(big.Int).Mul(exactValue(n), big.NewInt(api.Sides))
	n.multiply(api.Sides)
	if exactValue(n).Cmp(want) != 0 {
		t.Errorf("got %v, want %v", exactValue(n), want)
	}
	for i, digit := range n.digits {
		if digit < 0 || digit >= digitBase {
			t.Errorf("digit %d is %d", i, digit)
		}
	}
}

func TestIsLess(t *testing.T) {
	rising := []*number{
		{digits: []int{1}}, {digits: []int{2}}, {digits: []int{digitBase - 1}},
		{digits: []int{0, 1}}, {digits: []int{1, 1}}, {digits: []int{digitBase - 1, 1}},
		{digits: []int{0, 2}}, {digits: []int{0, 0, 1}}, {digits: []int{1, 0, 1}}, {digits: []int{0, 1, 1}},
	}
	for i, left := range rising {
		for j, right := range rising {
			if left.isLess(right) != (i < j) {
				t.Errorf("isLess(%v, %v) is %v", left.digits, right.digits, i >= j)
			}
		}
	}
}
