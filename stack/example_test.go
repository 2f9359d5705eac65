package stack_test

import (
	"fmt"

	"etalon/api"
	"etalon/stack"
)

// The example of the README: the shares of light of a stack whose thicknesses may be wrong by 5 in 1000.
func ExampleSharesOf() {
	parts, errno := stack.ParseStack("H:543,L:856")
	if errno != api.OK {
		fmt.Println("error", errno)
		return
	}
	layers, _ := stack.Layered(parts, []api.StackMaterial{{Name: "H", Index: 23000}, {Name: "L", Index: 14600, Loss: 2}})
	boxes, _ := stack.Boxed(layers, 5)
	shares, _ := stack.SharesOf(api.StackAsk{
		Index: 10000, Polar: api.PolarS, Wave: api.Range{Lo: 5000, Hi: 5000},
		Layers: boxes, On: api.Substrate{Index: 15200},
	})
	fmt.Println(shares.Reflected, shares.Transmitted, shares.Absorbed)
	// Output: {288621 425685} {621215 771743} {0 138740}
}
