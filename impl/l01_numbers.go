package impl

import (
	"math"
	"strconv"
	"strings"
)

// Limits of chapter 1.
const (
	MaxNumbers = 64
	MaxValue   = 1000000000000000
	MaxItems   = 64
	CheckSize  = 65003
)

// Words and sizes of this chapter's texts.
const (
	emptyText     = "none"
	itemSeparator = ","
	hexDigits     = 8
	notNumberBits = 2143289344
	greatestBits  = 4294967295
	longestName   = 8
)

// wide is a complex number with 64-bit parts, as it is before it is narrowed.
// Products are converted before they are added, so that no compiler joins both
// operations in one rounding.
type wide complex128

// widen returns x with 64-bit parts, which is exact.
func widen(x complex64) wide {
	return wide(complex(float64(real(x)), float64(imag(x))))
}

// narrow returns x with parts rounded to 32-bit numbers.
func (x wide) narrow() complex64 {
	return complex(float32(real(x)), float32(imag(x)))
}

// times returns the product of x and y.
func (x wide) times(y wide) wide {
	a, b, c, d := real(x), imag(x), real(y), imag(y)
	return wide(complex(float64(a*c)-float64(b*d), float64(a*d)+float64(b*c)))
}

// conjugate returns x with the opposite imaginary part.
func (x wide) conjugate() wide {
	return wide(complex(real(x), -imag(x)))
}

// dividedBy returns both parts of x divided by a number.
func (x wide) dividedBy(by float64) wide {
	return wide(complex(real(x)/by, imag(x)/by))
}

// power returns the sum of the squares of both parts.
func (x wide) power() float64 {
	a, b := real(x), imag(x)
	return float64(a*a) + float64(b*b)
}

// SameNumber reports whether two numbers are both not-a-numbers, or equal with
// equal signs.
func SameNumber(a, b float32) bool {
	return BitsOf(a) == BitsOf(b)
}

// IsFinite reports whether x is neither an infinity nor a not-a-number.
func IsFinite(x float32) bool {
	return isFiniteWide(float64(x))
}

// isFiniteWide is IsFinite for a 64-bit number.
func isFiniteWide(x float64) bool {
	return !math.IsNaN(x) && !math.IsInf(x, 0)
}

// BitsOf returns the bits of a number in the format of IEEE 754.
func BitsOf(x float32) int64 {
	// All not-a-numbers are one value, whatever bits they have.
	if math.IsNaN(float64(x)) {
		return notNumberBits
	}
	return int64(math.Float32bits(x))
}

// FromBits returns the number with the given bits.
func FromBits(n int64) (float32, bool) {
	if n < 0 || n > greatestBits {
		return 0, false
	}
	return math.Float32frombits(uint32(n)), true
}

// SameComplex reports whether both parts of two complex numbers are the same.
func SameComplex(a, b complex64) bool {
	return SameNumber(real(a), real(b)) && SameNumber(imag(a), imag(b))
}

// IsFiniteComplex reports whether both parts are finite.
func IsFiniteComplex(x complex64) bool {
	return IsFinite(real(x)) && IsFinite(imag(x))
}

// NarrowComplex returns a number with narrowed parts.
func NarrowComplex(x complex128) complex64 {
	return wide(x).narrow()
}

// MulComplex returns the product of two complex numbers.
func MulComplex(x, y complex64) complex64 {
	return widen(x).times(widen(y)).narrow()
}

// ScaleComplex returns the product of a complex number and a number.
func ScaleComplex(x complex64, by float32) complex64 {
	// Converted, like those of wide, for callers who add the products to something.
	return complex(float32(real(x)*by), float32(imag(x)*by))
}

// ConjugateOf returns the conjugate.
func ConjugateOf(x complex64) complex64 {
	return complex(real(x), -imag(x))
}

// PowerOf returns the power, narrowed.
func PowerOf(x complex64) float32 {
	return float32(widen(x).power())
}

// LongOf returns the square root of the power.
func LongOf(x complex64) float32 {
	// The power is not narrowed first: its root can be a 32-bit number where
	// the power itself is too great or too small for one.
	return float32(math.Sqrt(widen(x).power()))
}

// QuotientOf returns the quotient of x and y.
func QuotientOf(x, y complex64) complex64 {
	divisor := widen(y)
	return widen(x).times(divisor.conjugate()).dividedBy(divisor.power()).narrow()
}

// radiansPerTurn is a function because the package level has no floats.
func radiansPerTurn() float64 {
	return 6.283185307179586
}

// fractionOf returns what turns, less than 2 to the power of 52, leave when all
// whole ones are taken away: from 0 to 1, where 1 comes from rounding.
func fractionOf(turns float64) float64 {
	// The way over an integer makes -0 to +0, so that -0 stays -0 here.
	fraction := turns - float64(int64(turns))
	if fraction < 0 {
		fraction += 1
	}
	return fraction
}

// quarterSine returns the sine of a number of turns from 0 to 0.25. The document's
// foldings of greater ones are left out: PhasorOf has done them before.
func quarterSine(turns float64) float64 {
	z := turns * radiansPerTurn()
	u := z * z
	p := 1.0
	for k := 8; k >= 1; k-- {
		p = 1 - float64(u*p)/float64(2*k*(2*k+1))
	}
	return float64(z * p)
}

// PhasorOf returns the point of the unit circle at some turns.
func PhasorOf(turns float64) complex64 {
	if !isFiniteWide(turns) {
		none := float32(math.NaN())
		return complex(none, none)
	}
	if math.Abs(turns) >= 1<<52 {
		return 1
	}
	fraction, quarters := fractionOf(turns), 0
	for fraction >= 0.25 {
		fraction -= 0.25
		quarters++
	}
	c, s := quarterSine(0.25-fraction), quarterSine(fraction)
	// Differences from 0, not opposites: they make +0 of both zeros.
	switch quarters {
	case 1:
		c, s = 0-s, c
	case 2:
		c, s = 0-c, 0-s
	case 3:
		c, s = s, 0-c
	}
	return wide(complex(c, s)).narrow()
}

// AngleOf returns the angle in turns, from -0.5 to 0.5.
func AngleOf(x complex64) float32 {
	if !IsFiniteComplex(x) {
		return float32(math.NaN())
	}
	if x == 0 {
		return 0
	}
	a, b := math.Abs(float64(imag(x))), math.Abs(float64(real(x)))
	angle := octantAngle(min(a, b) / max(a, b))
	if a > b {
		angle = 0.25 - angle
	}
	if real(x) < 0 {
		angle = 0.5 - angle
	}
	if imag(x) < 0 {
		angle = -angle
	}
	return float32(angle)
}

// octantAngle returns the angle, in turns, whose tangent is t, from 0 to 1.
func octantAngle(t float64) float64 {
	// Each round halves the angle, so that the series needs few terms.
	for range 3 {
		t = t / (1 + math.Sqrt(1+float64(t*t)))
	}
	u := t * t
	p := 0.0
	for k := 15; k >= 1; k -= 2 {
		p = 1/float64(k) - float64(u*p)
	}
	return (8 * float64(t*p)) / radiansPerTurn()
}

// TenthsOf returns the tenths of decibels of a finite power greater than 0.
func TenthsOf(power float32) (int64, bool) {
	if !(power > 0) || !IsFinite(power) {
		return 0, false
	}
	x, e := float64(power), 0
	for x >= 1.5 {
		x /= 2
		e++
	}
	for x < 0.75 {
		x *= 2
		e--
	}
	s := (x - 1) / (x + 1)
	u := s * s
	q := 0.0
	for k := 25; k >= 1; k -= 2 {
		q = 1/float64(k) + float64(u*q)
	}
	l := 2*float64(s*q) + float64(float64(e)*0.6931471805599453)
	return int64(math.Floor(float64(l*43.42944819032518) + 0.5)), true
}

// RootNumber returns the square root.
func RootNumber(x float32) float32 {
	return float32(math.Sqrt(float64(x)))
}

// SumComplex returns the sum from left to right.
func SumComplex(list []complex64) (complex64, bool) {
	if len(list) > MaxNumbers {
		return 0, false
	}
	var sum complex64
	for _, x := range list {
		sum += x
	}
	return sum, true
}

// DotComplex returns the sum of the products of the numbers of a and b.
func DotComplex(a, b []complex64) (complex64, bool) {
	if len(a) != len(b) || len(a) > MaxNumbers {
		return 0, false
	}
	var sum complex64
	for i, x := range a {
		sum += MulComplex(x, b[i])
	}
	return sum, true
}

// DotConjugate returns the sum of the products of the conjugates of the numbers
// of a and the numbers of b.
func DotConjugate(a, b []complex64) (complex64, bool) {
	return DotComplex(conjugatesOf(a), b)
}

// conjugatesOf returns the conjugates of all numbers of a list.
func conjugatesOf(list []complex64) []complex64 {
	conjugates := make([]complex64, len(list))
	for i, x := range list {
		conjugates[i] = ConjugateOf(x)
	}
	return conjugates
}

// PowersOf returns the sum of powers.
func PowersOf(list []complex64) (float32, bool) {
	if len(list) > MaxNumbers {
		return 0, false
	}
	sum := 0.0
	for _, x := range list {
		sum += widen(x).power()
	}
	return float32(sum), true
}

// ComplexText returns the text of complex numbers.
func ComplexText(list []complex64) (string, bool) {
	if len(list) > MaxNumbers {
		return "", false
	}
	if len(list) == 0 {
		return emptyText, true
	}
	parts := make([]string, len(list))
	for i, x := range list {
		parts[i] = hexOf(real(x)) + hexOf(imag(x))
	}
	return strings.Join(parts, itemSeparator), true
}

// hexOf returns the hexadecimal digits of the bits of a number.
func hexOf(x float32) string {
	digits := strconv.FormatInt(BitsOf(x), 16)
	return strings.Repeat("0", hexDigits-len(digits)) + digits
}

// ReadComplex returns the complex numbers with the given text.
func ReadComplex(s string) ([]complex64, bool) {
	parts, ok := splitItems(s, MaxNumbers)
	if !ok {
		return nil, false
	}
	list := make([]complex64, len(parts))
	for i, part := range parts {
		if len(part) != 2*hexDigits {
			return nil, false
		}
		re, reOK := readHex(part[:hexDigits])
		im, imOK := readHex(part[hexDigits:])
		if !reOK || !imOK {
			return nil, false
		}
		list[i] = complex(re, im)
	}
	return list, true
}

// readHex returns the number whose hexOf is s.
func readHex(s string) (float32, bool) {
	n, err := strconv.ParseUint(s, 16, 32)
	if err != nil {
		return 0, false
	}
	x, ok := FromBits(int64(n))
	// Capital digits, and other bits of not-a-numbers, are in no list's text.
	if !ok || hexOf(x) != s {
		return 0, false
	}
	return x, true
}

// splitItems returns the parts of the text of a list with at most limit items.
func splitItems(s string, limit int) ([]string, bool) {
	if s == emptyText {
		return nil, true
	}
	if strings.Count(s, itemSeparator) >= limit {
		return nil, false
	}
	return strings.Split(s, itemSeparator), true
}

// IsName reports whether s is a name.
func IsName(s string) bool {
	if len(s) < 1 || len(s) > longestName {
		return false
	}
	for i := range len(s) {
		if s[i] < 'a' || s[i] > 'z' {
			return false
		}
	}
	return true
}

// Decimal returns n in decimal.
func Decimal(n int64) string {
	return strconv.FormatInt(n, 10)
}

// ReadDecimal returns the number with the given decimal text.
func ReadDecimal(s string) (int64, bool) {
	n, err := strconv.ParseInt(s, 10, 64)
	// The text is compared, since the parser takes signs and zeros that Decimal
	// does not write.
	if err != nil || !isItem(n) || Decimal(n) != s {
		return 0, false
	}
	return n, true
}

// isItem reports whether lists can have n.
func isItem(n int64) bool {
	return n >= -MaxValue && n <= MaxValue
}

// ListText returns the text of a list.
func ListText(list []int64) (string, bool) {
	if len(list) > MaxItems {
		return "", false
	}
	if len(list) == 0 {
		return emptyText, true
	}
	parts := make([]string, len(list))
	for i, n := range list {
		if !isItem(n) {
			return "", false
		}
		parts[i] = Decimal(n)
	}
	return strings.Join(parts, itemSeparator), true
}

// ReadList returns the list with the given text.
func ReadList(s string) ([]int64, bool) {
	parts, ok := splitItems(s, MaxItems)
	if !ok {
		return nil, false
	}
	list := make([]int64, len(parts))
	for i, part := range parts {
		n, ok := ReadDecimal(part)
		if !ok {
			return nil, false
		}
		list[i] = n
	}
	return list, true
}

// CheckOf returns the check number of a text that begins with start.
func CheckOf(start int64, s string) (int64, bool) {
	if start < 0 || start >= CheckSize {
		return 0, false
	}
	check := start
	for i := range len(s) {
		check = (641*check + int64(s[i]) + 27) % CheckSize
	}
	return check, true
}
