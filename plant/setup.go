package plant

import (
	"slices"

	"etalon/api"
	"etalon/band"
	"etalon/glass"
	"etalon/grow"
	"etalon/text"
	"etalon/whole"
)

// CheckSetup returns the first error of a setup, with the number of what is wrong in its list.
func CheckSetup(s api.PlantSetup) (int, api.Errno) {
	if i, e := checkPeople(s.People); e != api.OK {
		return i, e
	}
	if i, e := glass.CheckCatalogue(s.Glasses); e != api.OK {
		return i, e
	}
	if i, e := checkProducts(s.Products); e != api.OK {
		return i, e
	}
	if i, e := grow.CheckChamber(s.Chamber); e != api.OK {
		return i, e
	}
	return 0, checkStart(s)
}

func checkPeople(l []api.PlantPerson) (int, api.Errno) {
	if len(l) > api.MaxPlantPeople {
		return 0, api.ErrLarge
	}
	return firstWrong(l, func(i int, x api.PlantPerson) api.Errno {
		switch {
		case !text.IsName(x.Name):
			return api.ErrName
		case !whole.Within(x.Role, api.RoleOperator, api.RoleChief):
			return api.ErrKind
		case personOf(l[:i], x.Name) != nil:
			return api.ErrExists
		}
		return api.OK
	})
}

func checkProducts(l []api.PlantProduct) (int, api.Errno) {
	if len(l) > api.MaxPlantProducts {
		return 0, api.ErrLarge
	}
	return firstWrong(l, func(i int, x api.PlantProduct) api.Errno {
		switch {
		case !text.IsName(x.Name):
			return api.ErrName
		case productOf(l[:i], x.Name) != nil:
			return api.ErrExists
		}
		return checkDemands(x.Demands)
	})
}

func checkDemands(l []api.BandDemand) api.Errno {
	if len(l) == 0 {
		return api.ErrShape
	}
	if len(l) > api.MaxDemands {
		return api.ErrLarge
	}
	_, e := firstWrong(l, func(_ int, d api.BandDemand) api.Errno { return band.CheckDemand(d) })
	return e
}

// checkStart checks what follows the right chamber of a setup.
func checkStart(s api.PlantSetup) api.Errno {
	_, e := grow.FirstBroken(s.Chamber, s.Start)
	switch {
	case e == api.OK:
		return api.ErrBreak
	case e != api.ErrNone:
		return e
	case !whole.Within(s.Shutter, 0, len(s.Chamber.Devices)-1):
		return api.ErrMissing
	case !whole.Within(s.On.Index, api.LeastIndex, api.MaxIndex) || !whole.Within(s.On.Loss, 0, api.MaxIndex):
		return api.ErrRange
	}
	return api.OK
}

func personOf(l []api.PlantPerson, name string) *api.PlantPerson {
	return named(l, name, func(x api.PlantPerson) string { return x.Name })
}

func glassOf(l []api.Glass, name string) *api.Glass {
	return named(l, name, func(g api.Glass) string { return g.Name })
}

func productOf(l []api.PlantProduct, name string) *api.PlantProduct {
	return named(l, name, func(x api.PlantProduct) string { return x.Name })
}

// copied returns a setup with lists of its own.
func copied(s api.PlantSetup) api.PlantSetup {
	s.People, s.Start = slices.Clone(s.People), slices.Clone(s.Start)
	s.Glasses, s.Products = slices.Clone(s.Glasses), slices.Clone(s.Products)
	for i := range s.Glasses {
		g := &s.Glasses[i]
		g.Waves, g.Index, g.Loss = slices.Clone(g.Waves), slices.Clone(g.Index), slices.Clone(g.Loss)
	}
	for i := range s.Products {
		x := &s.Products[i]
		x.Demands = slices.Clone(x.Demands)
	}
	s.Chamber.Devices, s.Chamber.Rules = slices.Clone(s.Chamber.Devices), slices.Clone(s.Chamber.Rules)
	return s
}
