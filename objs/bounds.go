package objs

import "ferryman/api"

const keys = 256 // of a store and of a ledger: from 0 on

// within tells what lies from low to high, these two too.
func within(low, high int) func(n int) bool {
	return func(n int) bool { return low <= n && n <= high }
}

// cut is the number from -MaxValue to MaxValue that is the closest one to n.
func cut(n int) int { return max(-api.MaxValue, min(n, api.MaxValue)) }

// mayNumbers: l may be the numbers of an object of that kind.
func mayNumbers(kind int, l []int) bool {
	isNumber := within(-api.MaxValue, api.MaxValue)
	switch kind {
	case api.Counter, api.Register:
		return len(l) == 1 && isNumber(l[0])
	case api.Queue, api.Stack:
		return mayLine(l, isNumber)
	case api.Store:
		return mayPairs(l, isNumber)
	case api.Ledger:
		return mayPairs(l, within(0, api.MaxValue))
	}
	return false
}

func mayLine(l []int, isNumber func(n int) bool) bool {
	if len(l) > api.MaxLen {
		return false
	}
	for _, n := range l {
		if !isNumber(n) {
			return false
		}
	}
	return true
}

func mayPairs(l []int, isNumber func(n int) bool) bool {
	if len(l)%2 != 0 || len(l) > 2*api.MaxLen {
		return false
	}
	least := 0 // that the next key may be: one more than the key ahead
	for i := 0; i < len(l); i += 2 {
		isKey := within(least, keys-1)
		if !isKey(l[i]) || !isNumber(l[i+1]) {
			return false
		}
		least = l[i] + 1
	}
	return true
}
