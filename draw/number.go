package draw

// digitBase leaves room in an int of 64 bits for a digit times the greatest
// factor (Sides, 2 to the power 10) and what is carried.
const digitBase = 1 << 50

// number is a whole number above 0 of any size: Sides to the power total has
// up to 2401 bits. The lowest digit comes first and the highest is not 0, so
// that the number with more digits is the greater one.
type number struct {
	digits []int
}

func one() *number {
	return &number{digits: []int{1}}
}

// multiply takes factors of 1 to Sides alone: 0 would leave the highest digit
// 0, a greater one might not fit.
func (n *number) multiply(factor int) {
	carry := 0
	for i := 0; i < len(n.digits); i++ {
		product := n.digits[i]*factor + carry
		n.digits[i] = product % digitBase
		carry = product / digitBase
	}
	if carry > 0 {
		n.digits = append(n.digits, carry)
	}
}

func (n *number) multiplyPower(factor int, exponent int) {
	for i := 0; i < exponent; i++ {
		n.multiply(factor)
	}
}

func (n *number) isLess(other *number) bool {
	if len(n.digits) != len(other.digits) {
		return len(n.digits) < len(other.digits)
	}
	for i := len(n.digits) - 1; i >= 0; i-- {
		if n.digits[i] != other.digits[i] {
			return n.digits[i] < other.digits[i]
		}
	}
	return false
}
