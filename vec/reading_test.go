package vec_test

import (
	"math/big"
	"strconv"
	"strings"

	"proofmark/api"
)

// digits are a number's bits, the highest first.
func digits(n, w int) string {
	s := strconv.FormatInt(int64(n), 2)
	return strings.Repeat("0", w-len(s)) + s
}

func number(s string) int {
	n, err := strconv.ParseUint(s, 2, 64)
	if err != nil {
		panic(err)
	}
	return int(n)
}

func one(yes bool) int {
	if yes {
		return 1
	}
	return 0
}

// bitwise is what is made of the digits that stand above one another, by what is made of 00, 01, 10 and 11.
func bitwise(a, b string, made string) int {
	var s strings.Builder
	for i := range a {
		s.WriteByte(made[number(a[i:i+1]+b[i:i+1])])
	}
	return number(s.String())
}

// modulo is what is left of a whole number, that never goes round by itself, at 2^w.
func modulo(n *big.Int, w int) int {
	return int(n.Mod(n, new(big.Int).Lsh(big.NewInt(1), uint(w))).Int64())
}

// read is what H1 says of a node, told once more, by digits and by whole numbers.
func read(n api.Node, a, b, c, wb int) int {
	switch n.Op {
	case api.Lit:
		return n.N
	case api.Inv:
		return number(strings.NewReplacer("0", "1", "1", "0").Replace(digits(a, n.W)))
	case api.RedOr:
		return one(strings.Contains(digits(a, n.Lo), "1"))
	case api.RedAnd:
		return one(!strings.Contains(digits(a, n.Lo), "0"))
	case api.And:
		return bitwise(digits(a, n.W), digits(b, n.W), "0001")
	case api.Or:
		return bitwise(digits(a, n.W), digits(b, n.W), "0111")
	case api.Xor:
		return bitwise(digits(a, n.W), digits(b, n.W), "0110")
	case api.Mux:
		return []int{c, b}[a]
	case api.Cat:
		return number(digits(a, n.W-wb) + digits(b, wb))
	case api.Slice:
		return number(digits(a, 16)[15-n.N : 16-n.Lo])
	}
	return readNumbers(n, a, b)
}

func readNumbers(n api.Node, a, b int) int {
	x, y := big.NewInt(int64(a)), big.NewInt(int64(b))
	order := strings.Compare(digits(a, 16), digits(b, 16))
	switch n.Op {
	case api.Add:
		return modulo(x.Add(x, y), n.W)
	case api.Sub:
		return modulo(x.Sub(x, y), n.W)
	case api.Mul:
		return modulo(x.Mul(x, y), n.W)
	case api.Eq:
		return one(order == 0)
	case api.Ne:
		return one(order != 0)
	case api.Lt:
		return one(order < 0)
	case api.Le:
		return one(order <= 0)
	}
	panic(n.Op)
}
