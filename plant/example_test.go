package plant_test

import (
	"fmt"

	"etalon/api"
	"etalon/plant"
)

// exampleSetup is the setup of the README.
func exampleSetup() api.PlantSetup {
	return api.PlantSetup{
		People:   []api.PlantPerson{{Name: "ann", Role: api.RoleOperator}, {Name: "bob", Role: api.RoleEngineer}, {Name: "cid", Role: api.RoleChief}},
		Glasses:  []api.Glass{{Name: "H", Kind: api.GlassTable, Waves: []int{4000}, Index: []float32{20000}, Loss: []float32{0}}},
		Products: []api.PlantProduct{{Name: "ar", Demands: []api.BandDemand{{Index: 10000, Wave: api.Range{Lo: 4000, Hi: 4000}, Most: 100}}}},
		Chamber:  api.GrowChamber{Devices: []string{"pump", "shutter"}, Rules: []api.GrowRule{{If: 1, IfOn: true, Then: 0, ThenOn: true}}},
		Start:    []bool{false, false},
		Shutter:  1,
		On:       api.Substrate{Index: 40000},
	}
}

// The example of the README: a part is coated at a desk and certified.
func ExampleDesk() {
	desk, errno := plant.New(exampleSetup())
	if errno != api.OK {
		fmt.Println("error", errno)
		return
	}
	refused := desk.Enter(api.PlantEntry{By: "ann", Text: "switch shutter"})
	fmt.Println(refused == api.ErrBreak)
	for _, x := range []api.PlantEntry{
		{By: "bob", Text: "recipe r ar H:500"},
		{By: "ann", Text: "switch pump"},
		{By: "ann", Text: "switch shutter"},
		{By: "ann", Text: "batch b1 r 1 w p"},
		{By: "ann", Text: "stop 0 499 501"},
		{By: "ann", Text: "done"},
		{By: "cid", Text: "certify p"},
	} {
		if errno := desk.Enter(x); errno != api.OK {
			fmt.Println("error", errno)
			return
		}
	}
	batch, _ := desk.Ask("batch b1")
	part, errno := desk.Ask("part p")
	fmt.Println(batch, "-", part, errno)
	certificate, _ := plant.CertificateOf(exampleSetup(), desk.Log(), "p")
	pieces, errno := plant.CheckCertificate(exampleSetup(), certificate)
	fmt.Println(certificate.Thick, pieces, errno)
	text, _ := plant.Journal(desk.Log())
	log, _, errno := plant.Recover(text[:len(text)-1])
	fmt.Println(len(log), errno)
	// Output:
	// true
	// r 1 done 1 yes - b1 0 certified 0
	// [{499 501}] 1 0
	// 6 0
}

// The other example of the README: two changes of a recipe are merged.
func ExampleMergedLayers() {
	versions := []api.PlantVersion{
		{Layers: []api.StackLayer{{Name: "A", Thick: 1}, {Name: "B", Thick: 2}}},
		{Layers: []api.StackLayer{{Name: "A", Thick: 5}, {Name: "B", Thick: 2}}, Parents: []int{1}},
		{Layers: []api.StackLayer{{Name: "A", Thick: 1}, {Name: "B", Thick: 7}}, Parents: []int{1}},
	}
	base, errno := plant.CommonVersion(versions, 2, 3)
	if errno != api.OK {
		fmt.Println("error", errno)
		return
	}
	merged, _, errno := plant.MergedLayers(versions[base-1].Layers, versions[1].Layers, versions[2].Layers)
	fmt.Println(base, merged, errno)
	// Output:
	// 1 [{A 5} {B 7}] 0
}
