package objs

import (
	"slices"

	"ferryman/api"
)

// What a caller is told where there is nothing to tell: none is there, or none may be; no pair more has room.
const (
	none   = -1
	noRoom = -2
)

func counter(l []int, o api.Op) int {
	was := l[0]
	switch o.Code {
	case api.Add:
		// A is cut ahead of the sum too, so that the sum goes round nowhere.
		l[0] = cut(was + cut(o.A))
		return was
	case api.Get:
		return was
	}
	return 0
}

func register(l []int, o api.Op) int {
	was := l[0]
	switch o.Code {
	case api.Write:
		l[0] = cut(o.A)
		return was
	case api.Get:
		return was
	}
	return 0
}

// line is a queue or a stack, which differ in nothing but in which end is taken.
func line(kind int, l []int, o api.Op) ([]int, int) {
	switch o.Code {
	case api.Push:
		if len(l) == api.MaxLen {
			return l, none
		}
		l = append(l, cut(o.A))
		return l, len(l)
	case api.Pop:
		return pop(kind, l)
	case api.Get:
		return l, len(l)
	}
	return l, 0
}

func pop(kind int, l []int) ([]int, int) {
	if len(l) == 0 {
		return l, none
	}
	at := 0
	if kind == api.Stack {
		at = len(l) - 1
	}
	taken := l[at]
	return slices.Delete(l, at, at+1), taken
}

func store(l []int, o api.Op) ([]int, int) {
	isKey := within(0, keys-1)
	if !isKey(o.A) {
		return l, none
	}
	was, there := look(l, o.A)
	if !there {
		was = none
	}
	switch o.Code {
	case api.Get:
		return l, was
	case api.Delete:
		return drop(l, o.A), was
	case api.Put:
		if !there && full(l) {
			return l, noRoom
		}
		return put(l, o.A, cut(o.B)), was
	}
	return l, 0
}

func ledger(l []int, o api.Op) ([]int, int) {
	switch o.Code {
	case api.Get:
		// An account that may not be is none either.
		if has, there := look(l, o.A); there {
			return l, has
		}
		return l, none
	case api.Deposit:
		return deposit(l, o.A, o.B)
	case api.Move:
		return move(l, o.A, o.B)
	}
	return l, 0
}

func deposit(l []int, account, n int) ([]int, int) {
	isAccount := within(0, keys-1)
	if !isAccount(account) || n < 0 {
		return l, none
	}
	has, there := look(l, account)
	if !there && full(l) {
		return l, noRoom
	}
	has = cut(has + cut(n))
	return put(l, account, has), has
}

// move brings n from one account to another, and tells by 1 that it did, or that both are one.
func move(l []int, accounts, n int) ([]int, int) {
	areAccounts := within(0, keys*keys-1)
	if !areAccounts(accounts) || n < 0 {
		return l, 0
	}
	from, to := accounts/keys, accounts%keys
	has, there := look(l, from)
	if !there || has < n {
		return l, 0
	}
	if from == to {
		return l, 1
	}
	other, there := look(l, to)
	if !there && full(l) || other+n > api.MaxValue {
		return l, 0
	}
	l = put(l, from, has-n)
	return put(l, to, other+n), 1
}

// place is where the pair of a key stands, or where it would stand.
func place(l []int, key int) (int, bool) {
	for i := 0; i < len(l); i += 2 {
		if l[i] >= key {
			return i, l[i] == key
		}
	}
	return len(l), false
}

// look is what a key has; 0 and false, if it has nothing.
func look(l []int, key int) (int, bool) {
	at, there := place(l, key)
	if !there {
		return 0, false
	}
	return l[at+1], true
}

// put is l with n as what a key has. Whoever calls it knows that there is room.
func put(l []int, key, n int) []int {
	at, there := place(l, key)
	if !there {
		return slices.Insert(l, at, key, n)
	}
	l[at+1] = n
	return l
}

func drop(l []int, key int) []int {
	at, there := place(l, key)
	if !there {
		return l
	}
	return slices.Delete(l, at, at+2)
}

func full(l []int) bool { return len(l) == 2*api.MaxLen }
