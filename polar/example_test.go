package polar_test

import (
	"fmt"

	"etalon/api"
	"etalon/polar"
)

// The example of the README: light behind a polariser, and what a sample with a polariser does to it.
func ExampleThrough() {
	turn := api.PolarTurn{P: 3, Q: 4, R: 5}
	polariser, errno := polar.Polariser(turn)
	if errno != api.OK {
		fmt.Println("error", errno)
		return
	}
	wave, _ := polar.Passed(polariser, api.JonesVector{X: 1})
	light, _ := polar.StokesOf(wave)
	fmt.Println(wave, light)
	sample, _ := polar.MuellerOf(polariser)
	twice, _ := polar.Through(sample, light)
	fmt.Println(twice)
	// Output: {(9+0i) (12+0i)} [225 -63 216 0]
	// [281250 -78750 270000 0]
}

// The other example of the README: a matrix that no sample has, and one that depolarises.
func ExampleWitness() {
	impossible := api.Mueller{0: 1, 5: 1, 10: 1, 15: -1}
	witness, value, errno := polar.Witness(impossible)
	fmt.Println(witness, value, errno)
	sum, _ := polar.Squares(api.Mueller{0: 2, 5: 1, 10: 1})
	for _, term := range sum.Terms {
		fmt.Println(term.Weight, term.Matrix)
	}
	terms, errno := polar.CheckSquares(api.Mueller{0: 2, 5: 1, 10: 1}, sum)
	fmt.Println(sum.Times, terms, errno)
	// Output: [(0+0i) (1+0i) (-1+0i) (0+0i)] -4 0
	// 1 [(3+0i) (0+0i) (0+0i) (1+0i)]
	// 3 [(0+0i) (1+0i) (1+0i) (0+0i)]
	// 8 [(0+0i) (0+0i) (0+0i) (1+0i)]
	// 3 3 0
}
