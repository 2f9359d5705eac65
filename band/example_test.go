package band_test

import (
	"fmt"

	"etalon/api"
	"etalon/band"
)

// The example of the README: two quarter waves, found and proved for a band.
func ExampleLeastDesign() {
	demand, errno := band.ParseDemand("reflected s 10000 0 200 5900 6100 0 100")
	if errno != api.OK {
		fmt.Println("error", errno)
		return
	}
	search := api.BandSearch{
		Demands: []api.BandDemand{demand},
		Options: []api.LayerBox{
			{Index: api.Range{Lo: 20000, Hi: 20000}, Thick: api.Range{Lo: 749, Hi: 751}},
			{Index: api.Range{Lo: 30000, Hi: 30000}, Thick: api.Range{Lo: 499, Hi: 501}},
		},
		On:   api.Substrate{Index: 22500},
		Most: 2,
	}
	design, _ := band.LeastDesign(search)
	fmt.Println(design.Layers, design.Trees, design.Refuted)
	layers, errno := band.CheckDesign(search, design)
	fmt.Println(layers, errno)
	// Output: [0 1] [[1 0 0]] [{0 6000 100} {0 6000 100} {0 6000 100}]
	// 2 0
}

// The other example of the README: three plates and the one that does the same.
func ExampleEquivalent() {
	quarter := func(index int) api.BandPlate {
		return api.BandPlate{Index: api.Frac{Num: index, Den: 1}, Half: api.Frac{Num: 1, Den: 1}}
	}
	equivalent, errno := band.Equivalent([]api.BandPlate{quarter(1), quarter(2), quarter(1)})
	if errno != api.OK {
		fmt.Println("error", errno)
		return
	}
	plate, _ := band.PlateOf(equivalent)
	fmt.Println(equivalent.Square, equivalent.Cosine, plate.Index, plate.Half)
	// Output: {1 4} {0 1} {1 2} {1 1}
}
