package grow_test

import (
	"math"
	"math/rand/v2"
	"slices"
	"strconv"
	"strings"
	"testing"

	"etalon/api"
	"etalon/grow"
)

// whenever returns the rule that a device is on whenever another one is.
func whenever(device, other int) api.GrowRule {
	return api.GrowRule{If: device, IfOn: true, Then: other, ThenOn: true}
}

// never returns the rule that a device is off.
func never(device int) api.GrowRule {
	return api.GrowRule{If: device, IfOn: true, Then: device}
}

// always returns the rule that a device is on.
func always(device int) api.GrowRule {
	return api.GrowRule{If: device, Then: device, ThenOn: true}
}

// apart returns the rule that one of two devices is off.
func apart(device, other int) api.GrowRule {
	return api.GrowRule{If: device, IfOn: true, Then: other}
}

// named returns a chamber of so many devices.
func named(devices int, rules ...api.GrowRule) api.GrowChamber {
	c := api.GrowChamber{Rules: rules}
	for i := range devices {
		c.Devices = append(c.Devices, "d"+strconv.Itoa(i))
	}
	return c
}

// plain is the chamber of the chapter's example: the shutter, the source and the pump.
func plain() api.GrowChamber {
	return api.GrowChamber{Devices: []string{"shutter", "source", "pump"}, Rules: []api.GrowRule{whenever(1, 2), whenever(0, 1)}}
}

// state returns a state: a 1 for each device that is on.
func state(s string) []bool {
	var l []bool
	for _, on := range s {
		l = append(l, on == '1')
	}
	return l
}

// P8.5: FirstBroken.
func TestFirstBroken(t *testing.T) {
	for _, x := range []struct {
		name    string
		chamber api.GrowChamber
		state   string
		want    int
		errno   api.Errno
	}{
		{"all off", plain(), "000", 0, api.ErrNone},
		{"all on", plain(), "111", 0, api.ErrNone},
		{"the source without the pump", plain(), "010", 0, api.OK},
		{"the shutter without the source", plain(), "100", 1, api.OK},
		{"both are broken: the first one", plain(), "110", 0, api.OK},
		{"the pump alone", plain(), "001", 0, api.ErrNone},
		{"the shutter, and the pump", plain(), "101", 1, api.OK},
		{"no devices", api.GrowChamber{}, "", 0, api.ErrNone},
		{"no rules", named(2), "10", 0, api.ErrNone},
		{"a device that is never on", named(1, never(0)), "1", 0, api.OK},
		{"it is off", named(1, never(0)), "0", 0, api.ErrNone},
		{"a device that is always on", named(1, always(0)), "0", 0, api.OK},
		{"it is on", named(1, always(0)), "1", 0, api.ErrNone},
		{"a rule that cannot be broken, off", named(1, whenever(0, 0)), "0", 0, api.ErrNone},
		{"a rule that cannot be broken, on", named(1, whenever(0, 0)), "1", 0, api.ErrNone},
		{"rules that contradict each other, off", named(1, never(0), always(0)), "0", 1, api.OK},
		{"rules that contradict each other, on", named(1, never(0), always(0)), "1", 0, api.OK},
		{"one of both is off", named(2, apart(0, 1)), "11", 0, api.OK},
		{"whenever one is off the other one is on", named(2, api.GrowRule{If: 1, Then: 0, ThenOn: true}), "00", 0, api.OK},
		{"whenever one is off the other one is off", named(2, api.GrowRule{If: 1, Then: 0}), "10", 0, api.OK},
		{"they are so", named(2, api.GrowRule{If: 1, Then: 0}), "00", 0, api.ErrNone},
		{"the last rule", named(8, slices.Concat(slices.Repeat([]api.GrowRule{whenever(0, 1)}, 29), []api.GrowRule{never(7)})...), "00000001", 29, api.OK},
	} {
		got, e := grow.FirstBroken(x.chamber, state(x.state))
		wantSame(t, x.name, got, e, x.want, x.errno)
	}
}

// P8.5: Switched.
func TestSwitched(t *testing.T) {
	for _, x := range []struct {
		name    string
		chamber api.GrowChamber
		state   string
		device  int
		want    string
		rule    int
		errno   api.Errno
	}{
		{"the pump", plain(), "000", 2, "001", 0, api.OK},
		{"the source", plain(), "001", 1, "011", 0, api.OK},
		{"the shutter", plain(), "011", 0, "111", 0, api.OK},
		{"the shutter back", plain(), "111", 0, "011", 0, api.OK},
		{"the source first", plain(), "000", 1, "", 0, api.ErrBreak},
		{"the shutter first", plain(), "000", 0, "", 1, api.ErrBreak},
		{"the pump, while the source is on", plain(), "011", 2, "", 0, api.ErrBreak},
		{"the source, while the shutter is on", plain(), "111", 1, "", 1, api.ErrBreak},
		{"from a state that is not safe", plain(), "100", 0, "000", 0, api.OK},
		{"from one to another one", plain(), "100", 2, "", 1, api.ErrBreak},
		{"of two rules the first one", plain(), "100", 1, "", 0, api.ErrBreak},
		{"no rules", named(8), "10101010", 7, "10101011", 0, api.OK},
		{"rules that contradict each other, off", named(1, never(0), always(0)), "1", 0, "", 1, api.ErrBreak},
		{"rules that contradict each other, on", named(1, never(0), always(0)), "0", 0, "", 0, api.ErrBreak},
		{"no devices", api.GrowChamber{}, "", 0, "", 0, api.ErrMissing},
		{"no such device", plain(), "100", 3, "", 0, api.ErrMissing},
		{"a device below 0", plain(), "100", -1, "", 0, api.ErrMissing},
		{"the greatest number", plain(), "100", math.MaxInt, "", 0, api.ErrMissing},
		{"the least number", plain(), "100", math.MinInt, "", 0, api.ErrMissing},
	} {
		got, rule, e := grow.Switched(x.chamber, state(x.state), x.device)
		wantSame(t, x.name, got, e, state(x.want), x.errno)
		wantSame(t, x.name, rule, e, x.rule, x.errno)
	}
}

// longName has as many letters as a name may have.
const longName = "abcdefghij-9"

// rightChamber is a chamber at the ends of what is right.
func rightChamber() api.GrowChamber {
	return api.GrowChamber{
		Devices: []string{"A", longName, "z9", "a", "B-"},
		Rules:   []api.GrowRule{whenever(0, 4), whenever(4, 0), never(1)},
	}
}

func chamberDefects() []defect[api.GrowChamber] {
	l := []defect[api.GrowChamber]{
		{"9 devices", func(c *api.GrowChamber) { c.Devices = named(9).Devices }, api.ErrLarge, 0},
		{"many wrong devices", func(c *api.GrowChamber) { c.Devices = make([]string, 5000) }, api.ErrLarge, 0},
	}
	for i := range 5 {
		for _, name := range []string{"", "1", "-a", "a b", " a", "a\n", "é", longName + "x", strings.Repeat("x", 60000)} {
			l = append(l, defect[api.GrowChamber]{"a name", func(c *api.GrowChamber) { c.Devices[i] = name }, api.ErrName, i})
		}
		if i > 0 {
			l = append(l, defect[api.GrowChamber]{"the first name", func(c *api.GrowChamber) { c.Devices[0], c.Devices[i] = "same", "same" }, api.ErrExists, i})
		}
	}
	l = append(l,
		defect[api.GrowChamber]{"31 rules", func(c *api.GrowChamber) { c.Rules = slices.Repeat([]api.GrowRule{never(0)}, 31) }, api.ErrLarge, 0},
		defect[api.GrowChamber]{"many wrong rules", func(c *api.GrowChamber) { c.Rules = slices.Repeat([]api.GrowRule{never(99)}, 5000) }, api.ErrLarge, 0},
	)
	for i := range 3 {
		for _, device := range []int{-1, 5, math.MinInt, math.MaxInt} {
			l = append(l,
				defect[api.GrowChamber]{"If", func(c *api.GrowChamber) { c.Rules[i].If = device }, api.ErrMissing, i},
				defect[api.GrowChamber]{"Then", func(c *api.GrowChamber) { c.Rules[i].Then = device }, api.ErrMissing, i},
			)
		}
	}
	return l
}

// P8.5: the errors of chambers, with their numbers.
func TestChamberDefects(t *testing.T) {
	wantDefects(t, "CheckChamber", rightChamber, chamberDefects(), grow.CheckChamber)
	for _, x := range []struct {
		name    string
		chamber api.GrowChamber
		number  int
		errno   api.Errno
	}{
		{"nothing", api.GrowChamber{}, 0, api.OK},
		{"empty lists", api.GrowChamber{Devices: []string{}, Rules: []api.GrowRule{}}, 0, api.OK},
		{"8 devices and 30 rules", named(8, slices.Repeat([]api.GrowRule{never(7)}, 30)...), 0, api.OK},
		{"rules without devices", api.GrowChamber{Rules: []api.GrowRule{{}}}, 0, api.ErrMissing},
		{"many rules without devices", api.GrowChamber{Rules: make([]api.GrowRule, 31)}, 0, api.ErrLarge},
		{"the second rule", named(2, never(1), whenever(1, 2)), 1, api.ErrMissing},
		{"names that differ in their size", api.GrowChamber{Devices: []string{"a", "A"}}, 0, api.OK},
		{"a name that is there", api.GrowChamber{Devices: []string{"a", "b", "b", "a"}}, 2, api.ErrExists},
		{"a name ahead of one that is there", api.GrowChamber{Devices: []string{"a", "", "a"}}, 1, api.ErrName},
		{"one that is there ahead of a name", api.GrowChamber{Devices: []string{"a", "a", ""}}, 1, api.ErrExists},
		{"two wrong names", api.GrowChamber{Devices: []string{"a", "", ""}}, 1, api.ErrName},
	} {
		n, e := grow.CheckChamber(x.chamber)
		wantSame(t, x.name, n, e, x.number, x.errno)
	}
}

// place is a chamber with a state and a device.
type place struct {
	api.GrowChamber
	state  []bool
	device int
}

// shapeDefects returns the defects of a state of five devices.
func shapeDefects() []defect[[]bool] {
	return []defect[[]bool]{
		{"no devices", func(l *[]bool) { *l = nil }, api.ErrShape, 0},
		{"fewer devices", func(l *[]bool) { *l = state("1111") }, api.ErrShape, 0},
		{"more devices", func(l *[]bool) { *l = state("111111") }, api.ErrShape, 0},
		{"many devices", func(l *[]bool) { *l = make([]bool, 5000) }, api.ErrShape, 0},
	}
}

// P8.5: the errors of FirstBroken and Switched: of the chamber, of the state, of the device, of the rules.
func TestPlaceDefects(t *testing.T) {
	right := func() place { return place{rightChamber(), state("10000"), 4} }
	defects := slices.Concat(
		within("chamber", func(x *place) *api.GrowChamber { return &x.GrowChamber }, chamberDefects()),
		within("state", func(x *place) *[]bool { return &x.state }, shapeDefects()),
	)
	wantDefects(t, "FirstBroken", right, defects, errorOf(t, func(x place) (int, api.Errno) { return grow.FirstBroken(x.GrowChamber, x.state) }))
	for _, device := range []int{-1, 5, math.MinInt, math.MaxInt} {
		defects = append(defects, defect[place]{"a device", func(x *place) { x.device = device }, api.ErrMissing, 0})
	}
	for i := range defects {
		defects[i].number = 0
	}
	defects = append(defects, defect[place]{"a rule", func(x *place) { x.state[4], x.device = true, 1 }, api.ErrBreak, 2})
	wantDefects(t, "Switched", right, defects, func(x place) (int, api.Errno) {
		got, rule, e := grow.Switched(x.GrowChamber, x.state, x.device)
		if e != api.OK && got != nil {
			t.Errorf("%v beside the error %d", got, e)
		}
		return rule, e
	})
}

// drawnChamber returns a right chamber. Some rules have their opposite, so that no switch alone leads from one state in
// which both are kept to another one.
func drawnChamber(r *rand.Rand, devices int) api.GrowChamber {
	c := named(r.IntN(devices + 1))
	if len(c.Devices) == 0 {
		return c
	}
	for range r.IntN(1 << r.IntN(4)) {
		rule := api.GrowRule{If: r.IntN(len(c.Devices)), IfOn: r.IntN(2) == 0, Then: r.IntN(len(c.Devices)), ThenOn: r.IntN(2) == 0}
		c.Rules = append(c.Rules, rule)
		if r.IntN(4) == 0 {
			c.Rules = append(c.Rules, api.GrowRule{If: rule.Then, IfOn: rule.ThenOn, Then: rule.If, ThenOn: rule.IfOn})
		}
	}
	return c
}

// P8.5: both are those of the definition, for all states and devices.
func TestChambersAgain(t *testing.T) {
	r := draws(50)
	for range 400 {
		c := drawnChamber(r, 5)
		for number := range 1 << len(c.Devices) {
			here := bookState(c, number)
			want := bookFirstBroken(c, here)
			got, e := grow.FirstBroken(c, here)
			if want < 0 {
				wantSame(t, "FirstBroken", got, e, 0, api.ErrNone)
			} else {
				wantSame(t, "FirstBroken", got, e, want, api.OK)
			}
			for device := range c.Devices {
				next := bookSwitched(here, device)
				got, rule, e := grow.Switched(c, here, device)
				if want := bookFirstBroken(c, next); want < 0 {
					wantSame(t, "Switched", got, e, next, api.OK)
					wantSame(t, "no rule", rule, e, 0, api.OK)
				} else {
					wantSame(t, "Switched", got, e, nil, api.ErrBreak)
					wantSame(t, "the rule", rule, e, want, api.ErrBreak)
				}
			}
		}
	}
}
