package run

import "herald/api"

// ToldText is what is written of a told thing, such as no script may come to.
func ToldText(x api.Told) string { return toldText(x) }
