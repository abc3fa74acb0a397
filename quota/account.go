package quota

import "quartermaster/api"

// factory is an account with a number, and a place in the tree.
type factory struct {
	account
	id, parent int
}

// account is a limit, and what was charged. What was carved out of it isn't kept here, since the children themselves tell it: steps that go by the use are handed their limits.
type account struct{ limit, charged int }

// use is what was charged, and what was carved out.
func (a *account) use(carved ...int) int { return a.charged + sum(carved...) }

// fits is OK if n more may be used. The use is never more than the limit, so that what is left can be told without a sum that goes round.
func (a *account) fits(n int, carved ...int) api.Errno {
	if n < 0 {
		return api.ErrArg
	}
	if left := a.limit - a.use(carved...); n > left {
		return api.ErrQuota
	}
	return api.OK
}

func (a *account) charge(n int, carved ...int) api.Errno {
	e := a.fits(n, carved...)
	if e == api.OK {
		a.charged += n
	}
	return e
}

func (a *account) refund(n int) api.Errno {
	if n < 0 || n > a.charged {
		return api.ErrArg
	}
	a.charged -= n
	return api.OK
}

func sum(ns ...int) int {
	s := 0
	for _, n := range ns {
		s += n
	}
	return s
}
