package grow

import (
	"slices"

	"etalon/api"
	"etalon/text"
	"etalon/whole"
)

// CheckChamber returns the first error of a chamber, with the number of the device or of the rule.
func CheckChamber(c api.GrowChamber) (int, api.Errno) {
	if len(c.Devices) > api.MaxGrowDevices {
		return 0, api.ErrLarge
	}
	for i, name := range c.Devices {
		if !text.IsName(name) {
			return i, api.ErrName
		}
		if slices.Contains(c.Devices[:i], name) {
			return i, api.ErrExists
		}
	}
	if len(c.Rules) > api.MaxGrowRules {
		return 0, api.ErrLarge
	}
	for i, r := range c.Rules {
		if !hasDevice(c, r.If) || !hasDevice(c, r.Then) {
			return i, api.ErrMissing
		}
	}
	return 0, api.OK
}

// hasDevice says whether a chamber has a device of a number.
func hasDevice(c api.GrowChamber, device int) bool {
	return whole.Within(device, 0, len(c.Devices)-1)
}

// checkState checks a chamber, and a state of it.
func checkState(c api.GrowChamber, state []bool) api.Errno {
	if _, e := CheckChamber(c); e != api.OK {
		return e
	}
	if len(state) != len(c.Devices) {
		return api.ErrShape
	}
	return api.OK
}

// numberOf returns the number of a state: the device i is its bit i.
func numberOf(state []bool) int {
	number := 0
	for device, on := range state {
		if on {
			number |= 1 << device
		}
	}
	return number
}

// switched returns the number of the state in which a device is switched.
func switched(state, device int) int { return state ^ 1<<device }

// breaks returns the condition that a rule is broken in the state with a number.
func breaks(state int) func(r api.GrowRule) bool {
	isOn := func(device int) bool { return state>>device&1 == 1 }
	return func(r api.GrowRule) bool { return isOn(r.If) == r.IfOn && isOn(r.Then) != r.ThenOn }
}

// FirstBroken returns the number of the first rule that is broken in a state.
func FirstBroken(c api.GrowChamber, state []bool) (int, api.Errno) {
	if e := checkState(c, state); e != api.OK {
		return 0, e
	}
	rule := slices.IndexFunc(c.Rules, breaks(numberOf(state)))
	if rule < 0 {
		return 0, api.ErrNone
	}
	return rule, api.OK
}

// Switched returns a state with a device switched. Beside ErrBreak it returns the first rule that would be broken.
func Switched(c api.GrowChamber, state []bool, device int) ([]bool, int, api.Errno) {
	if e := checkState(c, state); e != api.OK {
		return nil, 0, e
	}
	if !hasDevice(c, device) {
		return nil, 0, api.ErrMissing
	}
	state = slices.Clone(state)
	state[device] = !state[device]
	if rule, e := FirstBroken(c, state); e == api.OK {
		return nil, rule, api.ErrBreak
	}
	return state, 0, api.OK
}
