"""Circuits made short: chains of steps, found and looked at."""

from wavewires.away import leads_to, led_on
from wavewires.slides import slid, slides_of


def shortened(circuit):
    return led_on(circuit, slides_of, slid)


def slides_stand(circuit, steps, last):
    return leads_to(circuit, steps, last, slid)
