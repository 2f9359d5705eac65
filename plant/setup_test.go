package plant_test

import (
	"math"
	"slices"
	"strconv"
	"testing"

	"etalon/api"
	"etalon/plant"
)

// names returns so many names.
func names(letter string, count int) []string {
	var l []string
	for i := range count {
		l = append(l, letter+strconv.Itoa(i))
	}
	return l
}

// full is a setup with as much as there may be of everything.
func full() api.PlantSetup {
	s := plain()
	for _, name := range names("p", api.MaxPlantPeople-len(s.People)) {
		s.People = append(s.People, api.PlantPerson{Name: name, Role: api.RoleChief})
	}
	for _, name := range names("g", api.MaxGlasses-len(s.Glasses)) {
		s.Glasses = append(s.Glasses, formula(name, 15000, 100))
	}
	for _, name := range names("x", api.MaxPlantProducts-len(s.Products)) {
		s.Products = append(s.Products, api.PlantProduct{Name: name, Demands: slices.Repeat([]api.BandDemand{demand(antireflex)}, api.MaxDemands)})
	}
	s.Chamber.Devices = append(s.Chamber.Devices, names("d", api.MaxGrowDevices-len(s.Chamber.Devices))...)
	s.Chamber.Rules = lengthen(s.Chamber.Rules, api.MaxGrowRules)
	s.Start = append(s.Start, make([]bool, api.MaxGrowDevices-len(s.Start))...)
	s.Shutter = api.MaxGrowDevices - 1
	s.On = api.Substrate{Index: api.MaxIndex, Loss: api.MaxIndex}
	return s
}

// P10.1: right setups.
func TestCheckSetup(t *testing.T) {
	bare := api.PlantSetup{Chamber: api.GrowChamber{Devices: []string{"s"}}, Start: []bool{true}, On: api.Substrate{Index: api.LeastIndex}}
	for _, x := range []struct {
		name  string
		setup api.PlantSetup
	}{
		{"the chapter's example", plain()},
		{"more of everything", rich()},
		{"as much as there may be", full()},
		{"as little as there may be", bare},
	} {
		i, e := plant.CheckSetup(x.setup)
		wantSame(t, x.name, i, e, 0, api.OK)
	}
	i, e := plant.CheckSetup(api.PlantSetup{})
	wantSame(t, "nothing, also no shutter", i, e, 0, api.ErrMissing)
}

// personDefects returns the defects of the last person.
func personDefects() []defect[api.PlantSetup] {
	last := func(s *api.PlantSetup) *api.PlantPerson { return &s.People[len(s.People)-1] }
	return slices.Concat(
		within("person", func(s *api.PlantSetup) *string { return &last(s).Name }, nameDefects(api.ErrName)),
		within("role", func(s *api.PlantSetup) *int { return &last(s).Role }, beyond(api.RoleOperator, api.RoleChief, api.ErrKind)),
		[]defect[api.PlantSetup]{
			{"the name of the first person", func(s *api.PlantSetup) { last(s).Name = "ann" }, api.ErrExists, 0},
			{"the name of the person before", func(s *api.PlantSetup) { last(s).Name = s.People[len(s.People)-2].Name }, api.ErrExists, 0},
		},
	)
}

// glassDefects returns some defects of the last material of the rich setup, a table.
func glassDefects() []defect[api.PlantSetup] {
	last := func(s *api.PlantSetup) *api.Glass { return &s.Glasses[len(s.Glasses)-1] }
	return []defect[api.PlantSetup]{
		{"a material without a name", func(s *api.PlantSetup) { last(s).Name = "" }, api.ErrName, 0},
		{"a material of no kind", func(s *api.PlantSetup) { last(s).Kind = 3 }, api.ErrKind, 0},
		{"a table with a formula", func(s *api.PlantSetup) { last(s).Cauchy[1] = 1 }, api.ErrForm, 0},
		{"a row without loss", func(s *api.PlantSetup) { last(s).Loss = last(s).Loss[:1] }, api.ErrShape, 0},
		{"a wavelength", func(s *api.PlantSetup) { last(s).Waves[0] = 999 }, api.ErrRange, 0},
		{"an index that is no number", func(s *api.PlantSetup) { last(s).Index[0] = float32(math.NaN()) }, api.ErrWhole, 0},
		{"the order of the rows", func(s *api.PlantSetup) { last(s).Waves[1] = last(s).Waves[0] }, api.ErrOrder, 0},
		{"the name of another material", func(s *api.PlantSetup) { last(s).Name = "H" }, api.ErrExists, 0},
	}
}

// productDefects returns the defects of the last product.
func productDefects() []defect[api.PlantSetup] {
	last := func(s *api.PlantSetup) *api.PlantProduct { return &s.Products[len(s.Products)-1] }
	lastDemand := func(s *api.PlantSetup) *api.BandDemand {
		l := last(s).Demands
		return &l[len(l)-1]
	}
	return slices.Concat(
		within("product", func(s *api.PlantSetup) *string { return &last(s).Name }, nameDefects(api.ErrName)),
		[]defect[api.PlantSetup]{
			{"the name of the first product", func(s *api.PlantSetup) { last(s).Name = "ar" }, api.ErrExists, 0},
			{"no demands", func(s *api.PlantSetup) { last(s).Demands = nil }, api.ErrShape, 0},
			{"an empty list of demands", func(s *api.PlantSetup) { last(s).Demands = []api.BandDemand{} }, api.ErrShape, 0},
			{"one demand too many", func(s *api.PlantSetup) { last(s).Demands = lengthen(last(s).Demands, api.MaxDemands+1) }, api.ErrLarge, 0},
			{"the order of the sines of the first demand", func(s *api.PlantSetup) { last(s).Demands[0].Sine = span(2, 1) }, api.ErrOrder, 0},
			{"a share", func(s *api.PlantSetup) { lastDemand(s).Share = 3 }, api.ErrKind, 0},
			{"an index", func(s *api.PlantSetup) { lastDemand(s).Index = 4999 }, api.ErrRange, 0},
			{"the order of the wavelengths", func(s *api.PlantSetup) { lastDemand(s).Wave = span(4000, 3999) }, api.ErrOrder, 0},
			{"a bound", func(s *api.PlantSetup) { lastDemand(s).Most = 10001 }, api.ErrRange, 0},
			{"the order of the bounds", func(s *api.PlantSetup) { lastDemand(s).Least = 10000 }, api.ErrBreak, 0},
		},
	)
}

// chamberDefects returns the defects of the chamber of the rich setup, and of what follows it.
func chamberDefects() []defect[api.PlantSetup] {
	device := func(name string) func(s *api.PlantSetup) {
		return func(s *api.PlantSetup) { s.Chamber.Devices[2] = name }
	}
	return slices.Concat(
		[]defect[api.PlantSetup]{
			{"one device too many", func(s *api.PlantSetup) { s.Chamber.Devices = append(s.Chamber.Devices, names("d", 6)...) }, api.ErrLarge, 0},
			{"a device without a name", device(""), api.ErrName, 2},
			{"the name of another device", device("pump"), api.ErrExists, 2},
			{"one rule too many", func(s *api.PlantSetup) { s.Chamber.Rules = lengthen(s.Chamber.Rules, api.MaxGrowRules+1) }, api.ErrLarge, 0},
			{"a rule of no device", func(s *api.PlantSetup) { s.Chamber.Rules[1].If = 3 }, api.ErrMissing, 1},
			{"a start of too few devices", func(s *api.PlantSetup) { s.Start = make([]bool, 2) }, api.ErrShape, 0},
			{"a start of too many devices", func(s *api.PlantSetup) { s.Start = make([]bool, 4) }, api.ErrShape, 0},
			{"no start", func(s *api.PlantSetup) { s.Start = nil }, api.ErrShape, 0},
			{"the first rule is broken", func(s *api.PlantSetup) { s.Start = []bool{false, true, true} }, api.ErrBreak, 0},
			{"the last rule is broken", func(s *api.PlantSetup) { s.Start = []bool{true, false, false} }, api.ErrBreak, 0},
		},
		within("shutter", func(s *api.PlantSetup) *int { return &s.Shutter }, beyond(0, 2, api.ErrMissing)),
		within("the substrate's index", func(s *api.PlantSetup) *int { return &s.On.Index }, beyond(api.LeastIndex, api.MaxIndex, api.ErrRange)),
		within("its loss", func(s *api.PlantSetup) *int { return &s.On.Loss }, beyond(0, api.MaxIndex, api.ErrRange)),
	)
}

// setupDefects returns the defects of the rich setup, in the order of their errors.
func setupDefects() []defect[api.PlantSetup] {
	s := rich()
	return slices.Concat(
		[]defect[api.PlantSetup]{
			{"one person too many", func(s *api.PlantSetup) { s.People = lengthen(s.People, api.MaxPlantPeople+1) }, api.ErrLarge, 0},
			{"the role of the second person", func(s *api.PlantSetup) { s.People[1].Role = 0 }, api.ErrKind, 1},
			{"the name of the third person", func(s *api.PlantSetup) { s.People[2].Name = "" }, api.ErrName, 2},
		},
		numbered(len(s.People)-1, personDefects()),
		[]defect[api.PlantSetup]{
			{"one material too many", func(s *api.PlantSetup) { s.Glasses = lengthen(s.Glasses, api.MaxGlasses+1) }, api.ErrLarge, 0},
			{"the loss of the third material", func(s *api.PlantSetup) { s.Glasses[2].Loss[1] = -1 }, api.ErrRange, 2},
		},
		numbered(len(s.Glasses)-1, glassDefects()),
		[]defect[api.PlantSetup]{
			{"one product too many", func(s *api.PlantSetup) { s.Products = lengthen(s.Products, api.MaxPlantProducts+1) }, api.ErrLarge, 0},
			{"the demand of the first product", func(s *api.PlantSetup) { s.Products[0].Demands[0].Index = 0 }, api.ErrRange, 0},
			{"the name of the second product", func(s *api.PlantSetup) { s.Products[1].Name = "" }, api.ErrName, 1},
		},
		numbered(len(s.Products)-1, productDefects()),
		chamberDefects(),
	)
}

// P10.1: each error of a setup, with its number, alone and beside each later one.
func TestSetupErrors(t *testing.T) {
	wantDefects(t, "CheckSetup", rich, setupDefects(), plant.CheckSetup)
}

// P10.2 to P10.8: the error of the setup comes first in all functions.
func TestSetupFirst(t *testing.T) {
	wrong := logOf("eve nothing")
	noCertificate := api.PlantCertificate{}
	for _, x := range []struct {
		name string
		of   func(s api.PlantSetup) api.Errno
	}{
		{"Accept", func(s api.PlantSetup) api.Errno { _, e := plant.Accept(s, wrong, wrong[0]); return e }},
		{"CheckLog", func(s api.PlantSetup) api.Errno {
			i, e := plant.CheckLog(s, slices.Repeat(wrong, 61))
			wantSame(t, "its number", i, e, 0, e)
			return e
		}},
		{"StateOf", func(s api.PlantSetup) api.Errno { _, e := plant.StateOf(s, wrong); return e }},
		{"TasksOf", func(s api.PlantSetup) api.Errno { _, e := plant.TasksOf(s, wrong, ""); return e }},
		{"AnswerOf", func(s api.PlantSetup) api.Errno { _, e := plant.AnswerOf(s, wrong, ""); return e }},
		{"ExplainedOf", func(s api.PlantSetup) api.Errno { _, e := plant.ExplainedOf(s, wrong, ""); return e }},
		{"CertificateOf", func(s api.PlantSetup) api.Errno { _, e := plant.CertificateOf(s, wrong, ""); return e }},
		{"CheckCertificate", func(s api.PlantSetup) api.Errno { _, e := plant.CheckCertificate(s, noCertificate); return e }},
		{"Ask", func(s api.PlantSetup) api.Errno { _, e := plant.Ask(s, wrong, ""); return e }},
		{"New", func(s api.PlantSetup) api.Errno {
			d, e := plant.New(s)
			if d != nil {
				t.Errorf("a desk beside the error %d", e)
			}
			return e
		}},
	} {
		for _, d := range setupDefects() {
			s := rich()
			d.do(&s)
			wantErrno(t, x.name+", "+d.name, x.of(s), d.errno)
		}
	}
}
