package stack

import "etalon/api"

// Reflected returns the reflected amplitude by the matrices.
func Reflected(a api.StackAsk) (api.Ball, api.Errno) {
	return answered(a, api.OK, func(k *ask) api.Ball { return k.reflected(k.meeting(func(light) {})) })
}

// Transmitted returns the transmitted amplitude by the matrices.
func Transmitted(a api.StackAsk) (api.Ball, api.Errno) {
	return answered(a, api.OK, func(k *ask) api.Ball {
		all := oneBall()
		m := k.meeting(func(l light) { all = k.times(all, k.factor(l)) })
		return k.transmitted(m, all)
	})
}

// meeting is what light meets by the matrices: the admittances in front and behind, whether the last medium stops it,
// and A, C and their sum D.
type meeting struct {
	front, behind api.Ball
	stopped       bool
	a, c, d       api.Ball
}

// meeting does the operations up to D; ahead is told of each layer ahead of its matrix.
func (k *ask) meeting(ahead func(l light)) meeting {
	front := k.admittance(k.lightIn(0))
	p := k.product(ahead)
	last := k.lightIn(k.last())
	behind := k.admittance(last)
	b := k.plus(p[0], k.times(p[1], behind))
	c := k.plus(p[2], k.times(p[3], behind))
	a := k.times(front, b)
	return meeting{front, behind, last.stopped, a, c, k.plus(a, c)}
}

func (c *calculator) reflected(m meeting) api.Ball {
	return c.quotient(c.minus(m.a, m.c), m.d)
}

// transmitted returns the transmitted amplitude; all is the product of all factors.
func (c *calculator) transmitted(m meeting, all api.Ball) api.Ball {
	return c.quotient(c.times(c.plus(m.front, m.front), all), m.d)
}
